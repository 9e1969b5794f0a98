import unittest

from helper import (
    NotebookCase, TOP, WHOLE_TOP, cell, change, choice, drop_test, inline, last, nested_sum, put_test, run, slider)

MADE = [slider(0, 0, 9, 3, 3), choice(1, 0, [2, 0, 5]), cell(2, [5, 1, 0, 1, 1]), put_test(4, [8, 1, 2, 0, 3])]
FIFTY_NINE = nested_sum(20)
# With the cell of 59 numbers three times: 3 * 59 and 23, or 24, others.
MAKES_200 = [2, 1, 2] * 3 + [2, 0, 1] * 6 + [0, 1]
MAKES_201 = [2, 1, 2] * 3 + [10, 0, 1, 0, 1] * 2 + [2, 0, 1] * 3 + [0, 1]


class Inline(NotebookCase):
    def test_name_of_a_cell(self):
        self.assertEqual(last(MADE + [inline(4)]), [8, 8, 5, 1, 0, 1, 1, 0, 3])

    def test_without_cells_it_is_the_formula(self):
        for formula in ([0, 7], [1, 0], [1, 1], [0, -TOP], [10, 1, 0, 0, 2, 3, 0, 2, 1, 1]):
            self.assertEqual(last(MADE + [put_test(5, formula), inline(5)]), [len(formula)] + formula)

    def test_values_and_signs_are_not_taken_for_names(self):
        self.assertEqual(last(MADE + [put_test(5, [2, 0, 2, 2, 1, 2, 0, 2]), inline(5)]),
                         [11, 2, 0, 2, 2, 5, 1, 0, 1, 1, 0, 2])

    def test_cells_in_cells(self):
        before = MADE + [cell(3, [2, 1, 2, 1, 0]), cell(5, [10, 1, 3, 1, 2, 0, 4]), put_test(6, [3, 1, 5, 1, 3])]
        two = [5, 1, 0, 1, 1]
        three = [2] + two + [1, 0]
        six = [3, 10] + three + two + [0, 4] + three
        self.assertEqual(last(before + [inline(6)]), [len(six)] + six)

    def test_only_a_cells_name(self):
        self.assertEqual(last(MADE + [put_test(5, [1, 2]), inline(5)]), [5, 5, 1, 0, 1, 1])

    def test_parts_that_are_not_worked_out(self):
        self.assertEqual(last(MADE + [put_test(5, [10, 0, 1, 0, 3, 1, 2]), inline(5)]),
                         [10, 10, 0, 1, 0, 3, 5, 1, 0, 1, 1])

    def test_changed_cell(self):
        self.assertEqual(last(MADE + [change(2, [1, 1]), inline(4)]), [5, 8, 1, 1, 0, 3])

    def test_200_numbers_and_201(self):
        before = [cell(2, FIFTY_NINE), put_test(0, MAKES_200), put_test(1, MAKES_201)]
        told = last(before + [inline(0)])
        self.assertEqual(told, [200] + ([2] + FIFTY_NINE) * 3 + [2, 0, 1] * 6 + [0, 1])
        self.assert_refused(-19, before, inline(1))

    def test_200_numbers_and_201_in_a_cell_on_the_way(self):
        before = [cell(2, FIFTY_NINE), cell(3, MAKES_200), put_test(0, [1, 3])]
        told = run(before + [inline(0), cell(4, [1, 3]), put_test(0, [1, 4]), inline(0)])
        self.assertEqual((len(told[3]), told[3][0], told[3]), (201, 200, told[6]))
        before = [cell(2, FIFTY_NINE), cell(3, MAKES_201), put_test(0, [1, 3])]
        self.assert_refused(-19, before, inline(0))
        self.assert_refused(-19, before + [cell(4, [1, 3]), put_test(0, [1, 4])], inline(0))
        self.assert_refused(-19, before + [put_test(0, [10, 0, 1, 0, 1, 1, 3])], inline(0))

    def test_long_cell_that_is_not_on_the_way(self):
        before = [cell(2, FIFTY_NINE), cell(3, MAKES_201), cell(4, [2, 1, 3, 1, 2]), put_test(0, [1, 2])]
        self.assertEqual(last(before + [inline(0)]), [59] + FIFTY_NINE)
        self.assertEqual(last(before + [cell(5, [0, 8]), put_test(1, [1, 5]), inline(1)]), [2, 0, 8])

    def test_far_too_long(self):
        before = [cell(0, [0, 1])]
        for name in range(1, 12):
            before.append(cell(name, [6, 1, name - 1] * 19 + [1, name - 1]))
        before += [put_test(0, [1, 11]), put_test(1, [1, 1])]
        self.assert_refused(-19, before, inline(0))
        self.assertEqual(last(before + [inline(1)]), [59] + [6, 0, 1] * 19 + [0, 1])

    def test_no_such_test(self):
        for number in (0, 2, 31, -1, 32, WHOLE_TOP, -WHOLE_TOP):
            self.assert_refused(-9, MADE, inline(number))
        self.assert_refused(-9, MADE + [drop_test(4)], inline(4))


if __name__ == "__main__":
    unittest.main()
