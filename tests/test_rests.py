import unittest

from helper import (
    NotebookCase, TOP, WHOLE_TOP, cell, change, choice, drop, inputs, last, nested_sum, put_test, rests, rests_of_test,
    run, set_to, slider, turn)

INPUTS = [slider(9, 0, 9, 3, 3), choice(1, 0, [2, 0, 5]), slider(5, 0, 0, 1, 0)]
CELLS = [cell(20, [2, 1, 5, 1, 9]), cell(3, [0, 7]), cell(4, [4, 1, 20, 1, 3]), cell(0, [2, 1, 1, 1, 4])]
MADE = INPUTS + CELLS


class Rests(NotebookCase):
    def test_input_rests_on_itself_alone(self):
        self.assertEqual(run(MADE + [rests(9), rests(1), rests(5)])[7:], [[1, 9], [1, 1], [1, 5]])

    def test_cells_in_the_order_of_inputs(self):
        self.assertEqual(run(MADE + [rests(20), rests(3), rests(4), rests(0)])[7:],
                         [[2, 9, 5], [0], [2, 9, 5], [3, 9, 1, 5]])

    def test_parts_that_are_not_worked_out(self):
        self.assertEqual(last(INPUTS + [cell(2, [10, 0, 1, 0, 4, 1, 5]), rests(2)]), [1, 5])
        self.assertEqual(last(INPUTS + [cell(2, [10, 0, 0, 1, 1, 0, 4]), cell(3, [1, 2]), rests(3)]), [1, 1])

    def test_reading_is_enough(self):
        self.assertEqual(last(INPUTS + [cell(2, [4, 0, 0, 3, 1, 9, 1, 9]), rests(2)]), [1, 9])
        self.assertEqual(last(INPUTS + [cell(2, [2, 5, 0, 1, 0, 0, 1, 9]), rests(2)]), [1, 9])

    def test_values_are_not_names(self):
        self.assertEqual(last(INPUTS + [cell(2, [2, 0, 9, 0, 1]), rests(2)]), [0])

    def test_changed_cell(self):
        self.assertEqual(run(MADE + [change(20, [1, 1]), rests(20), rests(4), rests(0)])[8:], [[1, 1], [1, 1], [1, 1]])

    def test_all_eight_through_twelve_cells(self):
        calls = [choice(name, 0, [1]) for name in range(8)] + [cell(8, [1, 7])]
        for name in range(9, 20):
            calls.append(cell(name, [2, 1, name - 1, 1, max(0, 15 - name)]))
        self.assertEqual(last(calls + [rests(19)]), [8, 0, 1, 2, 3, 4, 5, 6, 7])

    def test_neither_input_nor_cell(self):
        for name in (2, 31, -1, 32, WHOLE_TOP, -WHOLE_TOP):
            self.assert_refused(-8, MADE + [put_test(2, [1, 9])], rests(name))


class RestsOfTest(NotebookCase):
    def test_directly_and_through_cells(self):
        calls = MADE + [put_test(9, [1, 1]), put_test(1, [1, 4]), put_test(5, [0, 9]), put_test(6, [2, 1, 4, 1, 1])]
        calls += [rests_of_test(9), rests_of_test(1), rests_of_test(5), rests_of_test(6)]
        self.assertEqual(run(calls)[11:], [[1, 1], [2, 9, 5], [0], [3, 9, 1, 5]])

    def test_parts_that_are_not_worked_out(self):
        self.assertEqual(last(MADE + [put_test(0, [10, 0, 1, 1, 3, 1, 20]), rests_of_test(0)]), [2, 9, 5])

    def test_changed_test(self):
        self.assertEqual(last(MADE + [put_test(0, [1, 0]), put_test(0, [1, 5]), rests_of_test(0)]), [1, 5])

    def test_no_such_test(self):
        for number in (9, 20, 31, -1, 32, WHOLE_TOP, -WHOLE_TOP):
            self.assert_refused(-9, MADE + [put_test(2, [1, 9])], rests_of_test(number))


class Inputs(NotebookCase):
    def test_none(self):
        self.assertEqual(run([inputs(), cell(0, nested_sum(3)), inputs()]), [[0], [0], [0]])

    def test_name_value_place_and_how_many(self):
        self.assertEqual(last(MADE + [inputs()]), [3, 9, 3, 1, 4, 1, 2, 0, 3, 5, 0, 0, 1])

    def test_turned_and_set(self):
        self.assertEqual(last(MADE + [turn(9, 2), set_to(1, 5), inputs()]), [3, 9, 9, 3, 4, 1, 5, 2, 3, 5, 0, 0, 1])

    def test_one_value_and_64(self):
        calls = [choice(31, 0, [-TOP]), slider(0, 1, 128, 2, 127), inputs()]
        self.assertEqual(last(calls), [2, 31, -TOP, 0, 1, 0, 127, 63, 64])

    def test_dropped_and_made_anew_stands_behind(self):
        calls = INPUTS + [drop(9), inputs(), choice(9, 1, [8, 6]), inputs()]
        self.assertEqual(run(calls)[4:], [[2, 1, 2, 0, 3, 5, 0, 0, 1], [0], [3, 1, 2, 0, 3, 5, 0, 0, 1, 9, 6, 1, 2]])

    def test_eight(self):
        calls = [choice(name, 0, [name, 50]) for name in range(7, -1, -1)] + [inputs()]
        expected = [8]
        for name in range(7, -1, -1):
            expected += [name, name, 0, 2]
        self.assertEqual(last(calls), expected)


if __name__ == "__main__":
    unittest.main()
