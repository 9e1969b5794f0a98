import unittest

from helper import (
    NotebookCase, TOP, WHOLE_TOP, cell, choice, drop, drop_test, last, nested_sum, put_test, run, slider)
from notebooktests.making import drop_test as drop_test_of
from notebooktests.making import put_test as put_test_of
from notebooktests.state import Notebook

INPUTS = [slider(0, 0, 9, 3, 3), choice(1, 0, [2, 0, 5]), cell(2, [5, 1, 0, 1, 1])]
EIGHT_TESTS = [put_test(number, [0, 1]) for number in range(8)]


class Test(NotebookCase):
    def test_new_and_changed(self):
        calls = INPUTS + [put_test(4, [8, 1, 2, 0, 3]), put_test(4, [0, 1]), put_test(4, [0, 1]), put_test(5, [0, 1])]
        self.assertEqual(run(calls)[3:], [[1], [0], [0], [1]])

    def test_numbers_0_and_31(self):
        self.assertEqual(run([put_test(0, [0, 1]), put_test(31, [0, 1])]), [[1], [1]])

    def test_a_tests_number_is_not_a_name(self):
        self.assertEqual(run(INPUTS + [put_test(0, [0, 1]), put_test(2, [0, 1])])[3:], [[1], [1]])
        self.assertEqual(run([put_test(4, [0, 1]), slider(4, 0, 0, 1, 0), cell(5, [0, 1]), put_test(5, [0, 1])]),
                         [[1], [0], [0], [1]])

    def test_reads_all_inputs_and_cells(self):
        self.assertEqual(last(INPUTS + [put_test(4, [2, 1, 0, 2, 1, 1, 1, 2])]), [1])

    def test_changed_reads_what_it_reads_now(self):
        calls = INPUTS + [put_test(4, [1, 2]), drop(2), put_test(4, [0, 1]), drop(2)]
        self.assertEqual(run(calls)[3:], [[1], [-12], [0], [0]])

    def test_number_outside(self):
        for number in (-1, 32, WHOLE_TOP, -WHOLE_TOP):
            self.assert_refused(-1, EIGHT_TESTS, put_test(number, []))

    def test_eight_tests_and_nine(self):
        self.assertEqual(run(EIGHT_TESTS), [[1]] * 8)
        self.assert_refused(-3, EIGHT_TESTS, put_test(8, [0, 1]))
        self.assert_refused(-3, EIGHT_TESTS, put_test(8, []))
        calls = EIGHT_TESTS + [put_test(7, [0, 2]), drop_test(3), put_test(8, [0, 1])]
        self.assertEqual(run(calls)[8:], [[0], [0], [1]])

    def test_not_a_formula(self):
        long_one = [10, 0, 1] + nested_sum(19) + [0, 5]
        for numbers in ([], [0], [0, 1, 0], [12, 0, 1], [0, TOP + 1], [1, 32], [1, -1], long_one, [2, 1, 9, 0]):
            self.assert_refused(-10, INPUTS, put_test(4, numbers))
            self.assert_refused(-10, INPUTS + [put_test(4, [1, 2])], put_test(4, numbers))

    def test_sixty_numbers(self):
        self.assertEqual(run([put_test(4, [10, 0, 1] * 2 + nested_sum(17) + [0, 5] * 2)]), [[1]])

    def test_reads_a_name_that_is_not_there(self):
        self.assert_refused(-11, INPUTS, put_test(4, [1, 9]))
        self.assert_refused(-11, INPUTS, put_test(4, [1, 4]))
        self.assert_refused(-11, INPUTS + [put_test(4, [1, 2])], put_test(4, [10, 0, 1, 0, 4, 1, 9]))


class DropTest(NotebookCase):
    def test_gone(self):
        calls = INPUTS + [put_test(4, [1, 2]), drop_test(4), drop(2), put_test(4, [0, 1])]
        self.assertEqual(run(calls)[3:], [[1], [0], [0], [1]])

    def test_the_others_stay(self):
        calls = [put_test(4, [0, 1]), put_test(5, [0, 1]), drop_test(4), put_test(5, [0, 1]), put_test(4, [0, 1])]
        self.assertEqual(run(calls), [[1], [1], [0], [0], [1]])

    def test_no_such_test(self):
        for number in (0, 5, -1, 32, WHOLE_TOP, -WHOLE_TOP):
            self.assert_refused(-9, INPUTS + [put_test(4, [1, 2])], drop_test(number))
        self.assert_refused(-9, [put_test(4, [0, 1]), drop_test(4)], drop_test(4))


class Remembered(unittest.TestCase):
    def setUp(self):
        self.notebook = Notebook()
        put_test_of(self.notebook, 4, [0, 1])
        put_test_of(self.notebook, 5, [0, 1])
        self.notebook.remembered = {4: 1, 5: 1}

    def test_nothing_at_the_beginning(self):
        self.assertEqual(Notebook().remembered, {})

    def test_changed_test_keeps_what_is_remembered(self):
        put_test_of(self.notebook, 4, [0, 0])
        self.assertEqual(self.notebook.remembered, {4: 1, 5: 1})

    def test_dropped_test_is_out_of_the_mark(self):
        drop_test_of(self.notebook, 4)
        self.assertEqual(self.notebook.remembered, {5: 1})
        put_test_of(self.notebook, 4, [0, 1])
        self.assertEqual(self.notebook.remembered, {5: 1})

    def test_order_of_tests(self):
        put_test_of(self.notebook, 3, [0, 1])
        put_test_of(self.notebook, 4, [0, 0])
        self.assertEqual(list(self.notebook.tests), [4, 5, 3])
        drop_test_of(self.notebook, 4)
        put_test_of(self.notebook, 4, [0, 0])
        self.assertEqual(list(self.notebook.tests), [5, 3, 4])


if __name__ == "__main__":
    unittest.main()
