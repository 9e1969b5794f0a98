"""How far names and values go."""

LAST_NAME = 31
GREATEST_VALUE = 1000000000000


def is_name(number):
    return 0 <= number <= LAST_NAME


def is_value(number):
    return -GREATEST_VALUE <= number <= GREATEST_VALUE
