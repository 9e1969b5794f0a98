import unittest

from helper import (
    NotebookCase, TOP, WHOLE_TOP, cell, choice, drop_test, last, put_test, run, slider, turn, verdict, verdicts)

MADE = [slider(0, 0, 9, 3, 3), choice(1, 0, [2, 0, 5]), cell(2, [5, 1, 0, 1, 1]), put_test(4, [8, 1, 2, 0, 3])]


class Verdict(NotebookCase):
    def assert_verdict(self, expected, formula, before=()):
        self.assertEqual(last(list(before) + [put_test(9, formula), verdict(9)]), [expected])

    def test_passes_unless_it_is_0(self):
        for number in (1, -1, 2, TOP, -TOP):
            self.assert_verdict(1, [0, number])
        self.assert_verdict(0, [0, 0])

    def test_refused_of_both_kinds(self):
        self.assert_verdict(2, [5, 0, 1, 0, 0])
        self.assert_verdict(2, [2, 0, TOP, 0, 1])
        self.assert_verdict(2, [4, 0, 0, 5, 0, 1, 0, 0])

    def test_refused_cell(self):
        before = [cell(1, [5, 0, 1, 0, 0]), cell(2, [2, 1, 1, 0, 1])]
        self.assert_verdict(2, [1, 2], before)
        self.assert_verdict(1, [10, 0, 1, 0, 5, 1, 2], before)
        self.assert_verdict(0, [10, 0, 0, 1, 2, 0, 0], before)
        self.assert_verdict(2, [10, 1, 2, 0, 1, 0, 1], before)

    def test_follows_the_inputs(self):
        calls = MADE + [verdict(4), turn(0, 1), verdict(4), turn(1, 1), verdict(4), turn(1, 1), verdict(4)]
        self.assertEqual(run(calls)[4:], [[1], [2], [0], [1], [2], [2], [1]])

    def test_no_such_test(self):
        for number in (0, 2, 31, -1, 32, WHOLE_TOP, -WHOLE_TOP):
            self.assert_refused(-9, MADE, verdict(number))
        self.assert_refused(-9, MADE + [drop_test(4)], verdict(4))
        self.assertEqual(run([verdict(0)]), [[-9]])


class Verdicts(NotebookCase):
    def test_none(self):
        self.assertEqual(run([verdicts()]), [[0]])

    def test_in_the_order_of_making(self):
        more = [put_test(31, [5, 0, 1, 0, 0]), put_test(0, [0, 0]), put_test(4, [0, 0]), verdicts()]
        self.assertEqual(last(MADE + more), [3, 4, 0, 31, 2, 0, 0])

    def test_made_anew_stands_behind(self):
        more = [put_test(1, [0, 0]), drop_test(4), put_test(4, [0, 1]), verdicts()]
        self.assertEqual(last(MADE + more), [2, 1, 0, 4, 1])

    def test_eight(self):
        calls = [put_test(number, [0, number % 2]) for number in range(7, -1, -1)] + [verdicts()]
        self.assertEqual(last(calls), [8, 7, 1, 6, 0, 5, 1, 4, 0, 3, 1, 2, 0, 1, 1, 0, 0])


if __name__ == "__main__":
    unittest.main()
