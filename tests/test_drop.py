import unittest

from helper import (
    NotebookCase, WHOLE_TOP, cell, change, choice, drop, drop_test, keep, last, put_test, recall, run, slider, turn,
    value)
from notebooktests.making import add_choice, add_slider, drop_name
from notebooktests.state import Notebook

MADE = [slider(0, 0, 9, 3, 3), choice(1, 0, [2, 0, 5]), cell(2, [5, 1, 0, 1, 1]), cell(3, [0, 4]), put_test(4, [1, 3])]


class Drop(NotebookCase):
    def test_input_is_gone(self):
        self.assertEqual(run([slider(0, 0, 9, 3, 3), drop(0), value(0), drop(0)]), [[0], [0], [-8], [-7]])

    def test_cell_is_gone(self):
        self.assertEqual(run(MADE + [drop(2), value(2), drop(2), drop(0)])[5:], [[0], [-8], [-7], [0]])

    def test_the_others_stay(self):
        self.assertEqual(run(MADE + [drop(2), value(0), value(1), value(3)])[5:], [[0], [0, 3], [0, 2], [0, 4]])

    def test_neither_input_nor_cell(self):
        for name in (4, 31, -1, 32, WHOLE_TOP, -WHOLE_TOP):
            self.assert_refused(-7, MADE, drop(name))

    def test_a_cell_reads_it(self):
        self.assert_refused(-12, MADE, drop(0))
        self.assert_refused(-12, MADE, drop(1))
        self.assert_refused(-12, MADE + [cell(5, [10, 0, 1, 0, 1, 1, 2])], drop(2))

    def test_a_test_reads_it(self):
        self.assert_refused(-12, MADE, drop(3))
        self.assertEqual(last(MADE + [drop_test(4), drop(3)]), [0])
        self.assert_refused(-12, [choice(1, 0, [5]), put_test(1, [10, 0, 1, 0, 1, 1, 1])], drop(1))

    def test_values_and_test_numbers_are_no_names(self):
        self.assertEqual(last([choice(1, 0, [5]), put_test(1, [0, 1]), cell(2, [0, 1]), drop(1)]), [0])

    def test_out_of_presets(self):
        calls = [slider(0, 0, 9, 3, 3), choice(1, 0, [2, 0, 5]), keep(7), drop(0), turn(1, 2), recall(7), value(1)]
        self.assertEqual(run(calls)[2:], [[2], [0], [2], [1], [0, 2]])

    def test_out_of_all_presets_also_when_made_anew(self):
        before = [slider(0, 0, 9, 3, 3), keep(0), turn(0, 1), keep(9), drop(0), slider(0, 0, 9, 3, 0)]
        for preset in (0, 9):
            self.assertEqual(run(before + [recall(preset), value(0)])[-2:], [[0], [0, 0]])

    def test_made_anew_as_a_cell(self):
        calls = [slider(0, 0, 9, 3, 3), keep(0), drop(0), cell(0, [0, 8]), recall(0), value(0)]
        self.assertEqual(run(calls)[-2:], [[0], [0, 8]])

    def test_made_anew_stands_behind(self):
        notebook = Notebook()
        add_slider(notebook, 0, 0, 1, 1, 0)
        add_choice(notebook, 1, 0, [5])
        drop_name(notebook, 0)
        add_choice(notebook, 0, 0, [5])
        self.assertEqual(list(notebook.inputs), [1, 0])

    def test_cell_made_anew_stands_behind(self):
        before = [cell(2, [0, 1]), cell(3, [0, 2]), drop(2), cell(2, [0, 1])]
        self.assertEqual(last(before + [change(2, [1, 3])]), [0])
        self.assert_refused(-11, before, change(3, [1, 2]))


if __name__ == "__main__":
    unittest.main()
