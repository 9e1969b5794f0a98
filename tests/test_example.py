"""The document's example, whole."""

import unittest

from helper import (
    cell, choice, edge, grid, inline, inputs, mark, nearest, news, put_test, rests, rests_of_test, run, slider, sweep,
    turn, value, verdict, verdicts)

EXAMPLE = [
    slider(0, 0, 9, 3, 3), choice(1, 0, [2, 0, 5]), cell(2, [5, 1, 0, 1, 1]), put_test(4, [8, 1, 2, 0, 3])]


class Example(unittest.TestCase):
    def assert_answers(self, calls, expected):
        self.assertEqual(run(EXAMPLE + calls)[4:], expected)

    def test_made(self):
        self.assertEqual(run(EXAMPLE), [[0], [0], [0], [1]])

    def test_now(self):
        self.assert_answers([inputs(), value(2), verdict(4), verdicts()],
                            [[2, 0, 3, 1, 4, 1, 2, 0, 3], [0, 1], [1], [1, 4, 1]])

    def test_sweeps(self):
        self.assert_answers([sweep(0, 4), sweep(1, 4)], [[4, 1, 1, 0, 0], [3, 1, 2, 1]])

    def test_values_along_the_first_sweep(self):
        calls = [turn(0, -1), value(2), turn(0, 1), value(2), turn(0, 1), value(2), turn(0, 1), value(2)]
        self.assert_answers(calls, [[0], [0, 0], [1], [0, 1], [2], [0, 3], [3], [0, 4]])

    def test_nearest(self):
        self.assert_answers([nearest(4, 0), nearest(4, 2), nearest(4, 1)],
                            [[1, 2, 0, 2, 1, 0], [1, 2, 0, 1, 1, 1], [0, 2, 0, 1, 1, 0]])

    def test_inline(self):
        self.assert_answers([inline(4)], [[8, 8, 5, 1, 0, 1, 1, 0, 3]])

    def test_the_other_calls(self):
        self.assert_answers(
            [rests(2), rests_of_test(4), edge(0, 4, 1), edge(0, 4, -1), edge(1, 4, 1), grid(0, 1, 4)],
            [[2, 0, 1], [2, 0, 1], [1], [0], [1], [6, 2, 4]])
        self.assert_answers([news(), mark(), news(), turn(1, 1), news()], [[1, 4, 3, 1], [1], [0], [1], [1, 4, 1, 2]])


if __name__ == "__main__":
    unittest.main()
