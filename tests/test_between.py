"""Calls that only look, between the others: these answer as without them, and the notebook stays as it is."""

import unittest

from helper import (
    NotebookCase, cell, change, choice, drop, drop_test, edge, grid, inline, inputs, keep, look_at_everything, mark,
    nearest, news, put_test, recall, rests, rests_of_test, run, set_to, slider, sweep, turn, value, verdict, verdicts)

LINE = [
    slider(0, 0, 9, 3, 3), choice(1, 0, [2, 0, 5]), cell(2, [5, 1, 0, 1, 1]), put_test(4, [8, 1, 2, 0, 3]),
    slider(0, 0, 1, 1, 0), keep(3), turn(0, 1), cell(3, [4, 1, 2, 0, 2]), put_test(5, [1, 3]), mark(),
    set_to(1, 0), change(2, [2, 1, 0, 1, 1]), recall(3), recall(4), put_test(4, [9, 1, 3, 0, 10]), drop(2),
    turn(1, -5), drop_test(5), drop(3), mark(), put_test(5, [1, 1]), drop(1), set_to(0, 6), keep(10), turn(1, 2)]
LOOKS = [
    value(2), verdict(4), verdicts(), rests(2), rests_of_test(4), inputs(), sweep(0, 4), sweep(1, 4), edge(0, 4, 1),
    edge(1, 5, -1), grid(0, 1, 4), grid(1, 0, 5), nearest(4, 0), nearest(4, 1), nearest(4, 2), nearest(5, 0),
    inline(4), inline(5), news()]


class Between(NotebookCase):
    def test_the_others_answer_as_before(self):
        looked = []
        for call in LINE:
            looked += [call] + LOOKS[:14]
        self.assertEqual(run(looked)[::15], run(LINE))

    def test_the_looks_answer_the_same_twice(self):
        for end in range(len(LINE) + 1):
            before = LINE[:end]
            told = run(before + LOOKS + LOOKS[::-1])[end:]
            self.assertEqual(told[:len(LOOKS)], told[len(LOOKS):][::-1])

    def test_the_notebook_stays_as_it_is(self):
        for end in range(len(LINE) + 1):
            before = LINE[:end]
            look = look_at_everything()
            self.assertEqual(run(before + LOOKS + look)[end + len(LOOKS):], run(before + look)[end:])


if __name__ == "__main__":
    unittest.main()
