"""Formulas, read from a list of numbers.

A piece is a tuple: a sign and the value or name behind it (0 where formulas stand behind it).
A tree is a tuple: its sign, then a value, a name, or the trees of its parts.
"""

from notebooktests.limits import is_name, is_value

VALUE = 0
NAME = 1
PLUS = 2
LESS = 3
TIMES = 4
DIVIDED = 5
GREATER_ONE = 6
LESSER_ONE = 7
IS_LESS = 8
IS_EQUAL = 9
EITHER = 10

# By sign: how many formulas stand behind it.
HOW_MANY_PARTS = (0, 0, 2, 2, 2, 2, 2, 2, 2, 2, 3)

MOST_NUMBERS = 60


class Formula:
    def __init__(self, pieces):
        self.pieces = pieces
        self.tree = tree_of(pieces)
        self.names = names_in(pieces)


def formula_of(numbers):
    # None where the numbers are not just one formula.
    pieces = pieces_of(numbers)
    if pieces is None:
        return None
    return Formula(pieces)


def pieces_of(numbers):
    # One piece for each sign in order; a loop, since wrong lists may nest without an end.
    if len(numbers) > MOST_NUMBERS:
        return None
    pieces = []
    at = 0
    missing = 1
    while missing > 0:
        piece = piece_at(numbers, at)
        if piece is None:
            return None
        pieces.append(piece)
        at += 2 if is_leaf(piece[0]) else 1
        missing += HOW_MANY_PARTS[piece[0]] - 1
    if at < len(numbers):
        return None
    return pieces


def piece_at(numbers, at):
    if at >= len(numbers) or not VALUE <= numbers[at] <= EITHER:
        return None
    sign = numbers[at]
    if not is_leaf(sign):
        return (sign, 0)
    if at + 1 >= len(numbers):
        return None
    told = numbers[at + 1]
    fits = is_value(told) if sign == VALUE else is_name(told)
    return (sign, told) if fits else None


def is_leaf(sign):
    return sign == VALUE or sign == NAME


def tree_of(pieces):
    # From the right, so that the parts of a sign are made before the sign is met.
    made = []
    for piece in reversed(pieces):
        sign = piece[0]
        if is_leaf(sign):
            made.append(piece)
        else:
            tree = (sign,)
            for k in range(HOW_MANY_PARTS[sign]):
                tree = tree + (made.pop(),)
            made.append(tree)
    return made[0]


def names_in(pieces):
    names = {}
    for piece in pieces:
        if piece[0] == NAME:
            names[piece[1]] = True
    return names


def inlined(formula, inlined_cells):
    # The formula's numbers, with those told in the place of each cell's name.
    numbers = []
    for sign, told in formula.pieces:
        if sign == NAME and told in inlined_cells:
            numbers.extend(inlined_cells[told])
        elif is_leaf(sign):
            numbers.extend((sign, told))
        else:
            numbers.append(sign)
    return numbers
