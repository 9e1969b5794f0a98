import unittest

from helper import NotebookCase, TOP, WHOLE_TOP, cell, choice, nested_sum, run, slider, value
from notebooktests.formulas import formula_of

NOUGHT = [5, 0, 1, 0, 0]
FAR = [2, 0, TOP, 0, 1]
INPUTS = [slider(5, 0, 9, 1, 7), choice(6, 0, [-3, 4])]

# 16 signs of two parts and 2 of three have 60 numbers, 18 and 1 have 61.
SIXTY = [10, 0, 1] * 2 + nested_sum(17) + [0, 5] * 2
SIXTY_ONE = [10, 0, 1] + nested_sum(19) + [0, 5]


class Signs(NotebookCase):
    def test_value(self):
        for number in (0, 7, -7, TOP, -TOP):
            self.assert_value(number, [0, number])

    def test_name(self):
        self.assert_value(7, [1, 5], INPUTS)
        self.assert_value(-3, [1, 6], INPUTS)

    def test_sum_difference_product(self):
        self.assert_value(12, [2, 0, 9, 0, 3])
        self.assert_value(6, [3, 0, 9, 0, 3])
        self.assert_value(-6, [3, 0, 3, 0, 9])
        self.assert_value(-27, [4, 0, 9, 0, -3])

    def test_documents_own(self):
        self.assert_value(7 + 2 * -3, [2, 1, 5, 4, 0, 2, 1, 6], INPUTS)

    def test_quotient_is_not_above(self):
        for first, second, quotient in ((7, 2, 3), (-7, 2, -4), (7, -2, -4), (-7, -2, 3), (6, -3, -2), (0, -5, 0)):
            self.assert_value(quotient, [5, 0, first, 0, second])
        self.assert_value(TOP, [5, 0, -TOP, 0, -1])
        self.assert_value(-1, [5, 0, 1, 0, -TOP])

    def test_division_by_nothing(self):
        self.assert_kind(1, [5, 0, 4, 0, 0])
        self.assert_kind(1, [5, 0, 0, 0, 0])

    def test_greater_and_lesser(self):
        for first, second in ((2, 5), (5, 2), (-4, -9), (3, 3)):
            self.assert_value(max(first, second), [6, 0, first, 0, second])
            self.assert_value(min(first, second), [7, 0, first, 0, second])

    def test_less_and_equal(self):
        for first, second in ((2, 5), (5, 2), (3, 3), (-1, 0)):
            self.assert_value(1 if first < second else 0, [8, 0, first, 0, second])
            self.assert_value(1 if first == second else 0, [9, 0, first, 0, second])

    def test_either(self):
        self.assert_value(8, [10, 0, 1, 0, 8, 0, 9])
        self.assert_value(8, [10, 0, -2, 0, 8, 0, 9])
        self.assert_value(9, [10, 0, 0, 0, 8, 0, 9])

    def test_answers_are_whole_numbers_and_no_truths(self):
        for formula in ([8, 0, 1, 0, 2], [9, 0, 1, 0, 2], [6, 8, 0, 1, 0, 2, 0, 0]):
            for number in run([cell(0, formula), value(0)])[1]:
                self.assertIs(type(number), int)


class Refused(NotebookCase):
    def test_ends_of_the_range(self):
        self.assert_value(TOP, [2, 0, TOP - 1, 0, 1])
        self.assert_value(-TOP, [3, 0, 1 - TOP, 0, 1])
        self.assert_value(TOP, [4, 0, 10 ** 6, 0, 10 ** 6])
        self.assert_value(-TOP, [4, 0, 10 ** 6, 0, -10 ** 6])

    def test_one_beyond(self):
        self.assert_kind(2, [2, 0, TOP, 0, 1])
        self.assert_kind(2, [2, 0, -TOP, 0, -1])
        self.assert_kind(2, [3, 0, -TOP, 0, 1])
        self.assert_kind(2, [3, 0, TOP, 0, -1])
        self.assert_kind(2, [4, 0, 10 ** 6, 0, 10 ** 6 + 1])
        self.assert_kind(2, [4, 0, -TOP, 0, TOP])

    def test_parts_on_the_way_count(self):
        self.assert_kind(2, [3] + FAR + [0, 5])
        self.assert_kind(2, [4] + FAR + [0, 0])

    def test_first_refused_refuses_the_whole(self):
        for sign in range(2, 10):
            self.assert_kind(1, [sign] + NOUGHT + FAR)
            self.assert_kind(2, [sign] + FAR + NOUGHT)
            self.assert_kind(1, [sign] + NOUGHT + [0, 0])
            self.assert_kind(2, [sign, 0, 0] + FAR)

    def test_second_of_a_division_is_worked_out_first(self):
        self.assert_kind(2, [5] + FAR + [0, 0])
        self.assert_kind(2, [5, 0, 1] + FAR)

    def test_either_works_out_one_alone(self):
        self.assert_value(8, [10, 0, 1, 0, 8] + NOUGHT)
        self.assert_value(9, [10, 0, 0] + NOUGHT + [0, 9])
        self.assert_kind(1, [10, 0, 1] + NOUGHT + FAR)
        self.assert_kind(2, [10, 0, 0] + NOUGHT + FAR)
        self.assert_kind(2, [10] + FAR + NOUGHT + [0, 1])

    def test_name_of_a_refused_cell(self):
        before = [cell(1, NOUGHT), cell(2, FAR)]
        self.assert_kind(1, [1, 1], before)
        self.assert_kind(2, [1, 2], before)
        self.assert_kind(1, [2, 1, 1, 1, 2], before)
        self.assert_kind(2, [2, 1, 2, 1, 1], before)
        self.assert_value(3, [10, 0, 0, 1, 1, 0, 3], before)
        self.assert_value(3, [0, 3], before)


class Form(unittest.TestCase):
    def test_formulas(self):
        for numbers in ([0, 0], [0, TOP], [0, -TOP], [1, 0], [1, 31], [2, 0, 0, 0, 1], [10, 0, 0, 0, 1, 0, 2]):
            self.assertIsNotNone(formula_of(numbers), numbers)

    def test_60_numbers_and_61(self):
        self.assertEqual((len(SIXTY), len(SIXTY_ONE)), (60, 61))
        self.assertEqual(run([cell(0, SIXTY), value(0)]), [[0], [0, 17]])
        self.assertEqual(run([cell(0, SIXTY_ONE)]), [[-10]])

    def test_deepest_of_each_form(self):
        left_deep = [2] * 19 + [0, 1] * 20
        self.assertEqual(run([cell(0, left_deep), value(0)]), [[0], [0, 20]])
        right_deep = nested_sum(20)
        self.assertEqual(run([cell(0, right_deep), value(0)]), [[0], [0, 20]])

    def test_not_formulas(self):
        for numbers in (
                [], [0], [1], [2], [2, 0, 1], [2, 0, 1, 0], [10, 0, 1, 0, 2], [10, 0, 1, 0, 2, 0],
                [-1, 0, 1], [11, 0, 1], [11], [WHOLE_TOP], [2, 0, 1, 11, 3], [2, 0, 1, -1, 3],
                [0, TOP + 1], [0, -TOP - 1], [1, 32], [1, -1], [2, 0, 1, 1, 32], [10, 0, 1, 0, 1, 0, TOP + 1]):
            self.assertIsNone(formula_of(numbers), numbers)

    def test_numbers_behind(self):
        for numbers in ([0, 1, 0], [0, 1, 0, 1], [1, 5, 5], [2, 0, 1, 0, 2, 0], [2, 0, 1, 0, 2, 11]):
            self.assertIsNone(formula_of(numbers), numbers)

    def test_signs_without_an_end(self):
        for how_many in (60, 61, 400):
            for sign in (2, 10):
                self.assertIsNone(formula_of([sign] * how_many))

    def test_reads_names_in_parts_not_worked_out(self):
        self.assertEqual(sorted(formula_of([10, 0, 1, 1, 4, 1, 9]).names), [4, 9])

    def test_values_are_not_names(self):
        self.assertEqual(sorted(formula_of([2, 0, 4, 1, 7]).names), [7])


if __name__ == "__main__":
    unittest.main()
