import unittest

from helper import NotebookCase, WHOLE_TOP, cell, choice, drop, keep, recall, run, set_to, slider, turn, value

INPUTS = [slider(0, 0, 9, 3, 3), choice(1, 0, [2, 0, 5]), cell(2, [2, 1, 0, 1, 1])]


class Keep(NotebookCase):
    def test_tells_how_many_inputs(self):
        self.assertEqual(run(INPUTS + [keep(0), keep(9)])[3:], [[2], [2]])
        eight = [choice(name, 0, [1]) for name in range(8)]
        self.assertEqual(run(eight + [keep(0)])[8:], [[8]])

    def test_nothing_to_keep_is_kept_too(self):
        self.assertEqual(run([keep(3), recall(3)]), [[0], [0]])

    def test_in_the_place_of_the_one_before(self):
        calls = INPUTS + [keep(3), turn(0, 2), keep(3), turn(0, -3), recall(3), value(0)]
        self.assertEqual(run(calls)[-2:], [[1], [0, 9]])

    def test_in_the_place_of_the_one_before_without_a_dropped_input(self):
        calls = [slider(0, 0, 9, 3, 3), choice(1, 0, [2, 0, 5]), keep(3), drop(0), keep(3)]
        self.assertEqual(run(calls)[-1], [1])

    def test_number_outside(self):
        for preset in (-1, 10, WHOLE_TOP, -WHOLE_TOP):
            self.assert_refused(-13, INPUTS, keep(preset))


class Recall(NotebookCase):
    def test_every_input_stands_where_it_was(self):
        calls = INPUTS + [keep(4), turn(0, 2), turn(1, 1), value(2), recall(4), value(0), value(1), value(2)]
        self.assertEqual(run(calls)[6:], [[0, 9], [2], [0, 3], [0, 2], [0, 5]])

    def test_tells_how_many_have_another_place(self):
        calls = INPUTS + [keep(4), recall(4), turn(1, 1), recall(4), recall(4)]
        self.assertEqual(run(calls)[4:], [[0], [1], [1], [0]])

    def test_inputs_made_later_stay(self):
        calls = INPUTS + [keep(4), slider(7, 0, 5, 1, 2), turn(7, 1), turn(0, 1), recall(4), value(7), value(0)]
        self.assertEqual(run(calls)[-3:], [[1], [0, 3], [0, 3]])

    def test_presets_are_apart(self):
        calls = INPUTS + [keep(0), set_to(0, 9), keep(9), recall(0), value(0), recall(9), value(0)]
        self.assertEqual(run(calls)[6:], [[1], [0, 3], [1], [0, 9]])

    def test_turning_later_does_not_change_a_preset(self):
        calls = INPUTS + [keep(0), turn(0, 1), recall(0), turn(0, -1), recall(0), value(0)]
        self.assertEqual(run(calls)[-1], [0, 3])

    def test_input_that_is_gone(self):
        calls = [slider(0, 0, 9, 3, 3), slider(1, 0, 9, 3, 3), keep(0), turn(1, 1), drop(0)]
        calls += [recall(0), value(0), value(1)]
        self.assertEqual(run(calls)[-3:], [[1], [-8], [0, 3]])

    def test_input_made_anew_under_the_same_name(self):
        calls = [slider(0, 0, 9, 3, 3), keep(0), drop(0), slider(0, 0, 9, 3, 6), recall(0), value(0)]
        self.assertEqual(run(calls)[-2:], [[0], [0, 6]])
        calls = [slider(0, 0, 9, 3, 3), keep(0), drop(0), choice(0, 0, [8]), recall(0), value(0)]
        self.assertEqual(run(calls)[-2:], [[0], [0, 8]])

    def test_no_such_preset(self):
        for preset in (0, 5, 9, -1, 10, WHOLE_TOP, -WHOLE_TOP):
            self.assert_refused(-13, INPUTS + [keep(4), turn(0, 1)], recall(preset))


if __name__ == "__main__":
    unittest.main()
