"""The numbers that refused calls answer, and the 0 of what is not refused."""

ALL_IS_WELL = 0
OUTSIDE_NAMES = -1
THERE_ALREADY = -2
TOO_MANY = -3
OUTSIDE_VALUES = -4
NOT_SUCH_A_LIST = -5
NOT_OF_THE_INPUT = -6
NO_SUCH_INPUT = -7
NO_SUCH_CELL = -8
NO_SUCH_TEST = -9
NOT_A_FORMULA = -10
MAY_NOT_READ = -11
IS_READ = -12
NO_SUCH_PRESET = -13
