"""Formulas: read from a list of numbers into a tree, and worked out.

A tree is a tuple: its sign, then a value, a name, or the trees of its parts.
An outcome is a tuple: 0 and a value, or the kind of the refusal and 0.
"""

from notebooktests.limits import is_name, is_value

VALUE = 0
NAME = 1
PLUS = 2
LESS = 3
TIMES = 4
DIVIDED = 5
GREATER_ONE = 6
LESSER_ONE = 7
IS_LESS = 8
IS_EQUAL = 9
EITHER = 10

# By sign: how many formulas stand behind it.
HOW_MANY_PARTS = (0, 0, 2, 2, 2, 2, 2, 2, 2, 2, 3)

MOST_NUMBERS = 60

NOT_REFUSED = 0
DIVIDED_BY_NOTHING = 1
OUT_OF_RANGE = 2

FAILS = 0
PASSES = 1
IS_REFUSED = 2


class Formula:
    def __init__(self, tree, names):
        self.tree = tree
        self.names = names


def formula_of(numbers):
    # None where the numbers are not just one formula.
    pieces = pieces_of(numbers)
    if pieces is None:
        return None
    return Formula(tree_of(pieces), names_in(pieces))


def pieces_of(numbers):
    # One (sign, value or name) for each sign in order; a loop, since wrong lists may nest without an end.
    if len(numbers) > MOST_NUMBERS:
        return None
    pieces = []
    at = 0
    missing = 1
    while missing > 0:
        piece = piece_at(numbers, at)
        if piece is None:
            return None
        pieces.append(piece)
        at += 2 if is_leaf(piece[0]) else 1
        missing += HOW_MANY_PARTS[piece[0]] - 1
    if at < len(numbers):
        return None
    return pieces


def piece_at(numbers, at):
    if at >= len(numbers) or not VALUE <= numbers[at] <= EITHER:
        return None
    sign = numbers[at]
    if not is_leaf(sign):
        return (sign, 0)
    if at + 1 >= len(numbers):
        return None
    told = numbers[at + 1]
    fits = is_value(told) if sign == VALUE else is_name(told)
    return (sign, told) if fits else None


def is_leaf(sign):
    return sign == VALUE or sign == NAME


def tree_of(pieces):
    # From the right, so that the parts of a sign are made before the sign is met.
    made = []
    for piece in reversed(pieces):
        sign = piece[0]
        if is_leaf(sign):
            made.append(piece)
        else:
            tree = (sign,)
            for k in range(HOW_MANY_PARTS[sign]):
                tree = tree + (made.pop(),)
            made.append(tree)
    return made[0]


def names_in(pieces):
    names = {}
    for piece in pieces:
        if piece[0] == NAME:
            names[piece[1]] = True
    return names


def work_out(tree, outcomes):
    # outcomes has the outcome of every name that the tree reads.
    sign = tree[0]
    if sign == VALUE:
        return (NOT_REFUSED, tree[1])
    if sign == NAME:
        return outcomes[tree[1]]
    first = work_out(tree[1], outcomes)
    if first[0] != NOT_REFUSED:
        return first
    if sign == EITHER:
        return work_out(tree[2] if first[1] != 0 else tree[3], outcomes)
    second = work_out(tree[2], outcomes)
    if second[0] != NOT_REFUSED:
        return second
    if sign <= TIMES:
        return within_range(reckon(sign, first[1], second[1]))
    if sign == DIVIDED:
        return divide(first[1], second[1])
    return (NOT_REFUSED, compare(sign, first[1], second[1]))


def reckon(sign, first, second):
    if sign == PLUS:
        return first + second
    if sign == LESS:
        return first - second
    return first * second


def within_range(number):
    if is_value(number):
        return (NOT_REFUSED, number)
    return (OUT_OF_RANGE, 0)


def divide(first, second):
    if second == 0:
        return (DIVIDED_BY_NOTHING, 0)
    return (NOT_REFUSED, first // second)


def compare(sign, first, second):
    if sign == GREATER_ONE:
        return max(first, second)
    if sign == LESSER_ONE:
        return min(first, second)
    if sign == IS_LESS:
        return 1 if first < second else 0
    return 1 if first == second else 0


def verdict_of(outcome):
    if outcome[0] != NOT_REFUSED:
        return IS_REFUSED
    return PASSES if outcome[1] != 0 else FAILS
