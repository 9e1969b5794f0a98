"""Formulas worked out at many settings at once, since a test may be asked for at thousands of them."""

from notebooktests.formulas import (
    DIVIDED, EITHER, GREATER_ONE, IS_LESS, LESS, LESSER_ONE, NAME, PLUS, TIMES, VALUE)
from notebooktests.limits import GREATEST_VALUE, LEAST_VALUE, is_value

DIVIDED_BY_NOTHING = 1
OUT_OF_RANGE = 2

FAILS = 0
PASSES = 1
IS_REFUSED = 2


class Column:
    # What is worked out at some settings, one or more. numbers has the value at each of them in order, and any
    # value at one that is refused: its kind is in refusals then, by the setting's number in that order.
    # No number is below low or above high, so that most sums needn't be looked at one by one.
    # A column that is made isn't changed, so columns may share what they hold.
    def __init__(self, numbers, low, high, refusals):
        self.numbers = numbers
        self.low = low
        self.high = high
        self.refusals = refusals


def measured(numbers, refusals):
    return Column(numbers, min(numbers), max(numbers), refusals)


def same_everywhere(value, how_many):
    return Column([value] * how_many, value, value, {})


def column_of(tree, columns, how_many):
    # columns has the column of every name that the tree reads.
    sign = tree[0]
    if sign == VALUE:
        return same_everywhere(tree[1], how_many)
    if sign == NAME:
        return columns[tree[1]]
    first = column_of(tree[1], columns, how_many)
    if len(first.refusals) == how_many:
        return first
    if sign == EITHER:
        return either_part(tree, first, columns, how_many)
    second = column_of(tree[2], columns, how_many)
    column = of_two(sign, first, second)
    return Column(column.numbers, column.low, column.high, joined(first.refusals, second.refusals, column.refusals))


def joined(first, second, own):
    # What stands more to the left is refused first, and the sign itself last.
    if len(second) == 0 and len(own) == 0:
        return first
    if len(first) == 0 and len(own) == 0:
        return second
    refusals = dict(own)
    refusals.update(second)
    refusals.update(first)
    return refusals


def either_part(tree, asked, columns, how_many):
    # A part that no setting takes isn't worked out.
    if len(asked.refusals) == 0:
        zeros = asked.numbers.count(0)
        if zeros == 0:
            return column_of(tree[2], columns, how_many)
        if zeros == how_many:
            return column_of(tree[3], columns, how_many)
    return both_parts(asked, column_of(tree[2], columns, how_many), column_of(tree[3], columns, how_many))


def both_parts(asked, taken, other):
    numbers = [b if a != 0 else c for a, b, c in zip(asked.numbers, taken.numbers, other.numbers)]
    # Each was worked out for some of the settings: at the rest its refusals don't count.
    refusals = dict(asked.refusals)
    for k, kind in taken.refusals.items():
        if asked.numbers[k] != 0:
            refusals.setdefault(k, kind)
    for k, kind in other.refusals.items():
        if asked.numbers[k] == 0:
            refusals.setdefault(k, kind)
    return Column(numbers, min(taken.low, other.low), max(taken.high, other.high), refusals)


def of_two(sign, first, second):
    # With the refusals of the sign itself alone.
    if sign == PLUS:
        return plus(first, second)
    if sign == LESS:
        return less(first, second)
    if sign == TIMES:
        return times(first, second)
    if sign == DIVIDED:
        return divided(first, second)
    if sign == GREATER_ONE:
        return greater_one(first, second)
    if sign == LESSER_ONE:
        return lesser_one(first, second)
    if sign == IS_LESS:
        return Column([1 if a < b else 0 for a, b in zip(first.numbers, second.numbers)], 0, 1, {})
    return Column([1 if a == b else 0 for a, b in zip(first.numbers, second.numbers)], 0, 1, {})


def plus(first, second):
    sums = [a + b for a, b in zip(first.numbers, second.numbers)]
    return within_range(sums, first.low + second.low, first.high + second.high)


def less(first, second):
    differences = [a - b for a, b in zip(first.numbers, second.numbers)]
    return within_range(differences, first.low - second.high, first.high - second.low)


def times(first, second):
    products = [a * b for a, b in zip(first.numbers, second.numbers)]
    corners = (first.low * second.low, first.low * second.high, first.high * second.low, first.high * second.high)
    return within_range(products, min(corners), max(corners))


def within_range(numbers, low, high):
    if is_value(low) and is_value(high):
        return Column(numbers, low, high, {})
    outside = [k for k, number in enumerate(numbers) if not LEAST_VALUE <= number <= GREATEST_VALUE]
    kept = list(numbers)
    for k in outside:
        kept[k] = 0
    return measured(kept, refused_at(outside, OUT_OF_RANGE))


def refused_at(settings, kind):
    refusals = {}
    for k in settings:
        refusals[k] = kind
    return refusals


def divided(first, second):
    quotients = [a // b if b != 0 else 0 for a, b in zip(first.numbers, second.numbers)]
    nothings = [k for k, number in enumerate(second.numbers) if number == 0]
    # No quotient is farther from 0 than what is divided.
    farthest = max(abs(first.low), abs(first.high))
    return Column(quotients, -farthest, farthest, refused_at(nothings, DIVIDED_BY_NOTHING))


def greater_one(first, second):
    greater = [a if a > b else b for a, b in zip(first.numbers, second.numbers)]
    return Column(greater, max(first.low, second.low), max(first.high, second.high), {})


def lesser_one(first, second):
    lesser = [a if a < b else b for a, b in zip(first.numbers, second.numbers)]
    return Column(lesser, min(first.low, second.low), min(first.high, second.high), {})


def verdicts_of(column):
    verdicts = [PASSES if number != 0 else FAILS for number in column.numbers]
    for k in column.refusals:
        verdicts[k] = IS_REFUSED
    return verdicts
