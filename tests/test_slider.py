import unittest

from helper import (
    NotebookCase, TOP, WHOLE_TOP, cell, choice, drop, keep, run, last, set_to, slider, turn, value)

EIGHT_INPUTS = [slider(name, 0, 9, 3, 3) for name in range(8)]


class Slider(NotebookCase):
    def test_stands_at_its_value(self):
        self.assertEqual(run([slider(0, 0, 9, 3, 3), value(0)]), [[0], [0, 3]])

    def test_has_its_values_in_order(self):
        calls = [slider(5, -4, 5, 3, 2)] + [set_to(5, number) for number in (-4, -1, 2, 5)]
        self.assertEqual(run(calls), [[0], [0], [1], [2], [3]])
        self.assertEqual(last([slider(5, -4, 5, 3, 2), turn(5, 1)]), [3])

    def test_ends_at_or_below_high(self):
        self.assertEqual(run([slider(0, 0, 10, 3, 9), turn(0, 5), value(0)]), [[0], [3], [0, 9]])
        self.assertEqual(run([slider(0, 0, 8, 3, 6), turn(0, 5), value(0)]), [[0], [2], [0, 6]])

    def test_one_value(self):
        self.assertEqual(run([slider(0, 7, 7, 1, 7), turn(0, 1), value(0)]), [[0], [0], [0, 7]])
        self.assertEqual(run([slider(0, 7, 9, WHOLE_TOP, 7), turn(0, 1), value(0)]), [[0], [0], [0, 7]])

    def test_64_values_and_65(self):
        self.assertEqual(run([slider(0, 0, 63, 1, 63), turn(0, 0)]), [[0], [63]])
        self.assertEqual(run([slider(0, 1, 129, 2, 1)]), [[-5]])
        self.assertEqual(run([slider(0, 1, 128, 2, 127), turn(0, 0)]), [[0], [63]])
        self.assert_refused(-5, [], slider(0, 0, 64, 1, 0))
        self.assert_refused(-5, [], slider(0, -TOP, TOP, 1, 0))

    def test_ends_of_the_range(self):
        self.assertEqual(run([slider(0, -TOP, TOP, TOP, TOP), value(0), set_to(0, -TOP)]), [[0], [0, TOP], [0]])

    def test_names_0_and_31(self):
        self.assertEqual(run([slider(0, 1, 1, 1, 1), slider(31, 2, 2, 1, 2), value(31)]), [[0], [0], [0, 2]])

    def test_name_outside(self):
        for name in (-1, 32, WHOLE_TOP, -WHOLE_TOP):
            self.assert_refused(-1, EIGHT_INPUTS, slider(name, TOP + 1, 0, 0, 5))

    def test_name_there_already(self):
        before = EIGHT_INPUTS + [cell(20, [0, 1])]
        self.assert_refused(-2, before, slider(7, 0, 1, 1, 0))
        self.assert_refused(-2, before, slider(20, TOP + 1, 1, 1, 0))
        self.assert_refused(-2, [choice(7, 0, [4])], slider(7, 0, 1, 1, 0))

    def test_eight_inputs_and_nine(self):
        self.assertEqual(run(EIGHT_INPUTS), [[0]] * 8)
        self.assert_refused(-3, EIGHT_INPUTS, slider(8, 0, 9, 3, 3))
        self.assert_refused(-3, EIGHT_INPUTS, slider(8, TOP + 1, 9, 3, 3))
        self.assertEqual(last(EIGHT_INPUTS + [drop(3), slider(8, 0, 9, 3, 3)]), [0])

    def test_cells_are_not_counted_as_inputs(self):
        cells = [cell(name, [0, 1]) for name in range(10, 22)]
        self.assertEqual(last(cells + EIGHT_INPUTS), [0])

    def test_value_out_of_range(self):
        self.assert_refused(-4, [], slider(0, -TOP - 1, 0, 1, 0))
        self.assert_refused(-4, [], slider(0, 0, TOP + 1, TOP, 0))
        self.assert_refused(-4, [], slider(0, 0, 1, 1, TOP + 1))
        self.assert_refused(-4, [], slider(0, 0, 1, 1, -TOP - 1))
        self.assert_refused(-4, [], slider(0, TOP + 1, 0, 0, 0))

    def test_not_such_a_list(self):
        self.assert_refused(-5, [], slider(0, 0, 9, 0, 0))
        self.assert_refused(-5, [], slider(0, 0, 9, -3, 0))
        self.assert_refused(-5, [], slider(0, 9, 9, 0, 9))
        self.assert_refused(-5, [], slider(0, 10, 9, 1, 10))
        self.assert_refused(-5, [], slider(0, 10, 9, 1, 3))
        self.assert_refused(-5, [], slider(0, 0, 9, 0, 77))

    def test_value_that_it_has_not(self):
        self.assert_refused(-6, [], slider(0, 0, 9, 3, 4))
        self.assert_refused(-6, [], slider(0, 0, 9, 3, 12))
        self.assert_refused(-6, [], slider(0, 0, 9, 3, -3))
        self.assert_refused(-6, [], slider(0, 0, 10, 3, 10))

    def test_stands_behind_all_others(self):
        # A preset's count tells that the first ones are still there too.
        self.assertEqual(last(EIGHT_INPUTS[:3] + [keep(0)]), [3])


if __name__ == "__main__":
    unittest.main()
