import unittest

from helper import (
    NotebookCase, TOP, WHOLE_TOP, cell, change, choice, drop, last, nested_sum, run, slider, turn, value)

TWELVE_CELLS = [cell(name, [0, name]) for name in range(10, 22)]
INPUTS = [slider(0, 0, 9, 3, 3), choice(1, 0, [2, 0, 5])]
NOT_FORMULAS = (
    [], [0], [0, 1, 0], [12, 0, 1], [0, TOP + 1], [1, 32], [1, -1], [2, 0, 1],
    [10, 0, 1] + nested_sum(19) + [0, 5], [0] * 400)


class Cell(NotebookCase):
    def test_documents_example(self):
        calls = INPUTS + [cell(2, [5, 1, 0, 1, 1]), value(2), turn(0, 2), value(2), turn(1, 1), value(2)]
        self.assertEqual(run(calls)[2:], [[0], [0, 1], [3], [0, 4], [1], [1, 1]])

    def test_reads_cells_made_before(self):
        calls = INPUTS + [cell(2, [2, 1, 0, 1, 1]), cell(3, [4, 1, 2, 1, 2]), value(3), turn(0, -1), value(3)]
        self.assertEqual(run(calls)[2:], [[0], [0], [0, 25], [0], [0, 4]])

    def test_name_outside(self):
        for name in (-1, 32, WHOLE_TOP, -WHOLE_TOP):
            self.assert_refused(-1, TWELVE_CELLS, cell(name, []))

    def test_name_there_already(self):
        self.assert_refused(-2, INPUTS, cell(0, [0, 5]))
        self.assert_refused(-2, TWELVE_CELLS, cell(10, []))

    def test_twelve_cells_and_thirteen(self):
        self.assertEqual(run(TWELVE_CELLS), [[0]] * 12)
        self.assert_refused(-3, TWELVE_CELLS, cell(22, [0, 5]))
        self.assert_refused(-3, TWELVE_CELLS, cell(22, []))
        self.assertEqual(last(TWELVE_CELLS + [drop(15), cell(22, [0, 5])]), [0])

    def test_inputs_are_not_counted_as_cells(self):
        eight = [choice(name, 0, [1]) for name in range(8)]
        self.assertEqual(last(eight + TWELVE_CELLS), [0])

    def test_not_a_formula(self):
        for numbers in NOT_FORMULAS:
            self.assert_refused(-10, INPUTS, cell(2, numbers))

    def test_not_a_formula_comes_before_what_it_reads(self):
        self.assert_refused(-10, INPUTS, cell(2, [2, 1, 9, 0]))
        self.assert_refused(-10, INPUTS, cell(2, [2, 1, 9, 1, 32]))

    def test_reads_a_name_that_is_not_there(self):
        self.assert_refused(-11, INPUTS, cell(2, [1, 9]))
        self.assert_refused(-11, INPUTS, cell(2, [1, 2]))
        self.assert_refused(-11, INPUTS, cell(2, [10, 0, 1, 0, 4, 1, 9]))
        self.assert_refused(-11, INPUTS + [drop(0)], cell(2, [1, 0]))

    def test_many_cells_that_read_each_other_often(self):
        calls = [cell(0, [0, 1])]
        for name in range(1, 12):
            calls.append(cell(name, [6, 1, name - 1] * 19 + [1, name - 1]))
        calls.append(value(11))
        self.assertEqual(last(calls), [0, 1])


class Change(NotebookCase):
    THREE = INPUTS + [cell(2, [0, 7]), cell(3, [2, 1, 2, 0, 1]), cell(4, [0, 9])]

    def test_has_the_new_formula(self):
        calls = self.THREE + [change(2, [1, 0]), value(2), value(3)]
        self.assertEqual(run(calls)[5:], [[0], [0, 3], [0, 4]])

    def test_stays_at_its_place(self):
        # Cell 2 still stands before 3 and 4, so it may not read them, and they may read it.
        before = self.THREE + [change(2, [0, 8])]
        self.assert_refused(-11, before, change(2, [1, 4]))
        self.assertEqual(last(before + [change(3, [4, 1, 2, 0, 2]), value(3)]), [0, 16])

    def test_reads_inputs_made_later(self):
        calls = self.THREE + [slider(9, 5, 5, 1, 5), change(2, [1, 9]), value(3)]
        self.assertEqual(run(calls)[-2:], [[0], [0, 6]])

    def test_order_is_that_of_making_and_not_of_names(self):
        before = [cell(8, [0, 1]), cell(3, [0, 2])]
        self.assertEqual(last(before + [change(3, [1, 8])]), [0])
        self.assert_refused(-11, before, change(8, [1, 3]))

    def test_no_such_cell(self):
        for name in (0, 9, -1, 32, WHOLE_TOP, -WHOLE_TOP):
            self.assert_refused(-8, self.THREE, change(name, [0, 1]))
            self.assert_refused(-8, self.THREE, change(name, []))

    def test_not_a_formula(self):
        for numbers in NOT_FORMULAS:
            self.assert_refused(-10, self.THREE, change(2, numbers))
        self.assert_refused(-10, self.THREE, change(2, [2, 1, 30, 0]))

    def test_reads_a_name_that_it_may_not(self):
        self.assert_refused(-11, self.THREE, change(3, [1, 3]))
        self.assert_refused(-11, self.THREE, change(3, [1, 4]))
        self.assert_refused(-11, self.THREE, change(3, [1, 30]))
        self.assert_refused(-11, self.THREE, change(3, [10, 0, 1, 0, 4, 1, 4]))

    def test_what_it_read_before_is_free(self):
        calls = self.THREE + [change(3, [0, 1]), drop(2)]
        self.assertEqual(last(calls), [0])


if __name__ == "__main__":
    unittest.main()
