"""How far names and values go."""

LAST_NAME = 31
LEAST_VALUE = -1000000000000
GREATEST_VALUE = 1000000000000


def is_name(number):
    return 0 <= number <= LAST_NAME


def is_value(number):
    return LEAST_VALUE <= number <= GREATEST_VALUE
