"""Many settings at once give what each gives alone, and a column's bounds hold."""

import random
import unittest

from helper import TOP
from notebooktests.columns import column_of, measured, verdicts_of
from notebooktests.formulas import formula_of

NAMES = (0, 1, 2)
NUMBERS = (0, 0, 1, -1, 2, -3, 7, 10 ** 6, -10 ** 6, 10 ** 6 + 1, TOP // 2, -TOP // 2, TOP - 1, TOP, -TOP)


def draw_formula(source, depth):
    if depth == 0:
        if source.random() < 0.8:
            return [1, source.choice(NAMES)]
        return [0, source.choice(NUMBERS)]
    sign = source.randint(2, 10)
    formula = [sign]
    for part in range(3 if sign == 10 else 2):
        formula += draw_formula(source, source.randint(0, depth - 1))
    return formula


class Columns(unittest.TestCase):
    def assert_column(self, formula, rows):
        """rows has for each setting the numbers of all names, or a refusal's kind as a text."""
        columns = {name: self.given([row[name] for row in rows]) for name in NAMES}
        tree = formula_of(formula).tree
        column = column_of(tree, columns, len(rows))
        self.assertEqual(len(column.numbers), len(rows))
        for k, row in enumerate(rows):
            alone = column_of(tree, {name: self.given([row[name]]) for name in NAMES}, 1)
            self.assertEqual(column.refusals.get(k), alone.refusals.get(0), (formula, row))
            if k not in column.refusals:
                self.assertEqual(column.numbers[k], alone.numbers[0], (formula, row))
        self.assertLessEqual(max(column.numbers), min(column.high, TOP), formula)
        self.assertGreaterEqual(min(column.numbers), max(column.low, -TOP), formula)
        for k, verdict in enumerate(verdicts_of(column)):
            self.assertEqual(verdict, 2 if k in column.refusals else 1 if column.numbers[k] != 0 else 0)

    def given(self, outcomes):
        refusals = {k: int(outcome) for k, outcome in enumerate(outcomes) if isinstance(outcome, str)}
        return measured([0 if isinstance(outcome, str) else outcome for outcome in outcomes], refusals)

    def test_each_sign_at_far_and_near_numbers(self):
        rows = [(a, b, 5) for a in NUMBERS for b in NUMBERS]
        for sign in range(2, 10):
            self.assert_column([sign, 1, 0, 1, 1], rows)
            for a in NUMBERS:
                self.assert_column([sign, 1, 0, 1, 1], [(a, b, 5) for b in NUMBERS])
                self.assert_column([sign, 1, 1, 1, 0], [(a, b, 5) for b in NUMBERS])
        self.assert_column([10, 1, 0, 1, 1, 1, 2], [(a, b, -b // 2) for a in NUMBERS for b in NUMBERS])

    def test_refused_parts(self):
        outcomes = (0, 1, TOP, "1", "2")
        rows = [(a, b, c) for a in outcomes for b in outcomes for c in outcomes]
        for sign in range(2, 10):
            self.assert_column([sign, 1, 0, 1, 1], rows)
            self.assert_column([sign, 1, 0, sign, 1, 1, 1, 2], rows)
        self.assert_column([10, 1, 0, 1, 1, 1, 2], rows)

    def test_drawn_formulas(self):
        source = random.Random(5)
        for k in range(400):
            outcomes = source.choice((NUMBERS, NUMBERS + ("1", "2"), (0, 1, 2, 3, -1)))
            rows = [[source.choice(outcomes) for name in NAMES] for row in range(20)]
            formula = draw_formula(source, 4)
            if len(formula) <= 60:
                self.assert_column(formula, rows)

    def test_columns_handed_in_are_not_changed(self):
        columns = {0: self.given([0, TOP, "1"]), 1: self.given(["2", 1, 5])}
        for sign in range(2, 11):
            column_of(formula_of([sign, 1, 0, 1, 1] + ([1, 0] if sign == 10 else [])).tree, columns, 3)
            self.assertEqual([columns[0].numbers, columns[0].refusals], [[0, TOP, 0], {2: 1}])
            self.assertEqual([columns[1].numbers, columns[1].refusals], [[0, 1, 5], {0: 2}])


if __name__ == "__main__":
    unittest.main()
