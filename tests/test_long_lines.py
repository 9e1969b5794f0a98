"""Lines of 400 calls on the greatest notebooks, answered in a time that can be waited for."""

import time
import unittest

from helper import (
    TOP, cell, choice, edge, grid, inline, nearest, news, put_test, rests_of_test, run, slider, sweep, turn, value,
    verdicts)

MOST_SECONDS = 60
SUM, LESS, PRODUCT, QUOTIENT, GREATER, LESSER = range(2, 8)


def chain(signs, names):
    """Twenty names and nineteen signs: 59 numbers."""
    formula = []
    for k in range(19):
        formula += [signs[k % len(signs)], 1, names[k % len(names)]]
    return formula + [1, names[19 % len(names)]]


def great_notebook(signs, places):
    """Eight inputs; twelve cells of 59 numbers, each of which reads the one before often; eight tests."""
    calls = [slider(name, -20, places - 21, 1, name - 10) for name in range(8)]
    calls.append(cell(8, chain(signs, list(range(8)))))
    for name in range(9, 20):
        calls.append(cell(name, chain(signs, [name - 1, name % 8, name - 1, 7 - name % 8])))
    for number in range(8):
        calls.append(put_test(number, [8, 1, 19 - number, 0, -TOP]))
    return calls


class LongLines(unittest.TestCase):
    def answered(self, calls):
        self.assertEqual(len(calls), 400)
        self.assertLessEqual(sum(len(call) for call in calls), 17000)
        started = time.process_time()
        told = run(calls)
        self.assertLess(time.process_time() - started, MOST_SECONDS)
        return told

    def test_nearest_for_every_test_and_verdict(self):
        before = great_notebook((SUM, LESS, GREATER, LESSER), 64)
        told = self.answered(before + [nearest(k % 8, k % 3) for k in range(372)])
        for k, answer in enumerate(told[28:]):
            expected = [0, 8] + [part for name in range(8) for part in (name, name + 10)] if k % 3 == 0 else [-18]
            self.assertEqual(answer, expected, k)

    def test_nearest_with_every_input_turned(self):
        calls = great_notebook((SUM, LESS, GREATER, LESSER), 64)
        for k in range(186):
            calls += [turn(k % 8, 5 if k % 16 < 8 else -5), nearest(k % 8, 1)]
        told = self.answered(calls)
        self.assertEqual(told[29::2], [[-18]] * 186)

    def test_nearest_among_refusals(self):
        # Each cell is refused at some settings, and taken up again by the choice that the next one makes.
        calls = [slider(name, -20, 43, 1, name - 10) for name in range(8)]
        calls.append(cell(8, chain((SUM, QUOTIENT, LESS), list(range(8)))))
        for name in range(9, 20):
            formula = [10, 8, 1, name % 8, 0, name - 15] + chain((SUM, QUOTIENT, LESS), [name % 8, name - 1])[18:]
            calls.append(cell(name, formula + [1, (name + 3) % 8]))
        for number in range(8):
            calls.append(put_test(number, [9, 1, 19 - number, 0, TOP]))
        for k in range(186):
            calls += [turn(k % 8, 3 if k % 16 < 8 else -3), nearest(k % 8, 1)]
        told = self.answered(calls)
        self.assertEqual(told[:28], [[0]] * 20 + [[1]] * 8)
        self.assertEqual(told[29::2], [[-18]] * 186)

    def test_grids_of_1024_settings(self):
        before = great_notebook((SUM, LESS, GREATER, LESSER), 32)
        told = self.answered(before + [grid(k % 8, (k + 1 + k // 8 % 7) % 8, k % 8) for k in range(372)])
        self.assertEqual(told[28:], [[0, 1024, 0]] * 372)

    def test_all_calls_that_look(self):
        before = great_notebook((SUM, PRODUCT, LESS, QUOTIENT), 64)
        looks = [
            verdicts(), news(), value(19), rests_of_test(0), inline(0), sweep(3, 0), edge(2, 1, -1), edge(2, 1, 1)]
        told = self.answered(before + looks * 46 + looks[:4])
        self.assertEqual(told[28:36], told[-12:-4])
        self.assertEqual(told[31:33], [[8, 0, 1, 2, 3, 4, 5, 6, 7], [-19]])

    def test_choices_of_64_far_values(self):
        calls = [choice(name, 32, [(k - 32) * (TOP // 64) for k in range(64)]) for name in range(8)]
        calls += great_notebook((SUM, PRODUCT), 64)[8:]
        for k in range(93):
            calls += [turn(k % 8, 1 if k % 16 < 8 else -1), nearest(k % 8, 1), sweep(k % 8, 7), edge(k % 8, 7, 1)]
        told = self.answered(calls)
        self.assertEqual(told[:28], [[0]] * 20 + [[1]] * 8)
        self.assertEqual(told[29::4], [[-18]] * 93)


if __name__ == "__main__":
    unittest.main()
