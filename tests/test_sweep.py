import unittest

from helper import (
    NotebookCase, TOP, WHOLE_TOP, cell, choice, drop_test, edge, last, put_test, recall, keep, run, slider, sweep, turn)

MADE = [
    slider(0, 0, 9, 3, 3), choice(1, 0, [2, 0, 5]), cell(2, [5, 1, 0, 1, 1]), put_test(4, [8, 1, 2, 0, 3]),
    slider(6, 0, 63, 1, 20), choice(7, 0, [8])]
NO_INPUTS = (2, 4, 31, -1, 32, WHOLE_TOP, -WHOLE_TOP)
NO_TESTS = (0, 2, 31, -1, 32, WHOLE_TOP, -WHOLE_TOP)


class Sweep(NotebookCase):
    def test_each_place_in_order(self):
        self.assertEqual(run(MADE + [sweep(0, 4), sweep(1, 4)])[6:], [[4, 1, 1, 0, 0], [3, 1, 2, 1]])

    def test_the_others_stand_where_they_are(self):
        calls = MADE + [turn(0, 2), sweep(1, 4), turn(1, 1), sweep(0, 4), turn(1, 1), sweep(0, 4)]
        self.assertEqual(run(calls)[6:], [[3], [3, 0, 2, 1], [1], [4, 2, 2, 2, 2], [2], [4, 1, 1, 1, 1]])

    def test_its_own_place_does_not_matter(self):
        for k in (-1, 0, 1, 2):
            self.assertEqual(last(MADE + [turn(0, k), sweep(0, 4)]), [4, 1, 1, 0, 0])

    def test_input_on_which_the_test_does_not_rest(self):
        self.assertEqual(last(MADE + [sweep(6, 4)]), [64] + [1] * 64)

    def test_one_value(self):
        calls = MADE + [sweep(7, 4), put_test(5, [9, 1, 7, 0, 8]), sweep(7, 5)]
        self.assertEqual(run(calls)[6:], [[1, 1], [1], [1, 1]])

    def test_64_values(self):
        calls = MADE + [put_test(5, [5, 1, 6, 3, 0, 40, 1, 6]), sweep(6, 5)]
        self.assertEqual(last(calls), [64, 0] + [0] * 19 + [1] * 20 + [2] + [1] * 23)

    def test_both_kinds_of_refusal(self):
        calls = [slider(0, -1, 2, 1, 0), put_test(0, [2, 5, 0, 1, 1, 0, 4, 0, TOP, 8, 0, 1, 1, 0]), sweep(0, 0)]
        # 1 // -1, 1 // 0, 1 // 1, then 1 // 2 and 10 ** 12.
        self.assertEqual(last(calls), [4, 1, 2, 1, 1])
        calls = [slider(0, -1, 2, 1, 0), put_test(0, [2, 5, 0, 1, 1, 0, 4, 0, TOP, 8, 1, 0, 0, 2]), sweep(0, 0)]
        self.assertEqual(last(calls), [4, 1, 2, 2, 0])

    def test_part_that_is_not_taken(self):
        calls = [slider(0, -1, 2, 1, 0), put_test(0, [10, 1, 0, 5, 0, 1, 1, 0, 0, 0]), sweep(0, 0)]
        self.assertEqual(last(calls), [4, 1, 0, 1, 0])

    def test_no_such_input(self):
        for name in NO_INPUTS:
            self.assert_refused(-7, MADE, sweep(name, 4))
            self.assert_refused(-7, MADE, sweep(name, 30))

    def test_no_such_test(self):
        for number in NO_TESTS:
            self.assert_refused(-9, MADE, sweep(0, number))
        self.assert_refused(-9, MADE + [drop_test(4)], sweep(0, 4))


class Edge(NotebookCase):
    def test_both_directions(self):
        calls = MADE + [edge(0, 4, 1), edge(0, 4, -1), turn(0, 2), edge(0, 4, 1), edge(0, 4, -1)]
        self.assertEqual(run(calls)[6:], [[1], [0], [3], [0], [2]])

    def test_the_first_that_is_another(self):
        before = [slider(0, -3, 9, 1, 3), put_test(1, [4, 1, 0, 3, 1, 0, 0, 5])]
        self.assertEqual(run(before + [edge(0, 1, 1), edge(0, 1, -1)])[2:], [[2], [3]])

    def test_to_and_from_refused(self):
        calls = MADE + [edge(1, 4, 1), turn(1, 1), edge(1, 4, 1), edge(1, 4, -1), turn(0, 2), edge(1, 4, -1)]
        self.assertEqual(run(calls)[6:], [[1], [1], [1], [1], [3], [1]])

    def test_refused_of_another_kind_is_no_other_verdict(self):
        formula = [10, 1, 0, 2, 0, TOP, 0, 1, 5, 0, 1, 0, 0]
        self.assertEqual(run([slider(0, 0, 1, 1, 0), put_test(1, formula), edge(0, 1, 1), sweep(0, 1)])[2:],
                         [[0], [2, 2, 2]])

    def test_at_the_first_and_the_last_place(self):
        before = [slider(0, 0, 63, 1, 0), put_test(1, [9, 1, 0, 0, 63]), put_test(2, [9, 1, 0, 0, 0])]
        calls = before + [edge(0, 1, 1), edge(0, 1, -1), edge(0, 2, 1), edge(0, 2, -1), turn(0, 63)]
        calls += [edge(0, 1, 1), edge(0, 1, -1), edge(0, 2, 1), edge(0, 2, -1)]
        self.assertEqual(run(calls)[3:], [[63], [0], [1], [0], [63], [0], [1], [0], [63]])

    def test_one_value(self):
        self.assertEqual(run(MADE + [edge(7, 4, 1), edge(7, 4, -1)])[6:], [[0], [0]])

    def test_input_on_which_the_test_does_not_rest(self):
        self.assertEqual(run(MADE + [edge(6, 4, 1), edge(6, 4, -1)])[6:], [[0], [0]])

    def test_the_others_stand_where_they_are(self):
        calls = MADE + [keep(0), turn(1, 1), edge(0, 4, 1), turn(1, 1), edge(0, 4, 1), recall(0), edge(0, 4, 1)]
        self.assertEqual(run(calls)[6:], [[4], [1], [0], [2], [0], [1], [1]])

    def test_no_such_input(self):
        for name in NO_INPUTS:
            self.assert_refused(-7, MADE, edge(name, 4, 1))
            self.assert_refused(-7, MADE, edge(name, 30, 0))

    def test_no_such_test(self):
        for number in NO_TESTS:
            self.assert_refused(-9, MADE, edge(0, number, 1))
            self.assert_refused(-9, MADE, edge(0, number, 2))

    def test_neither_direction(self):
        for direction in (0, 2, -2, WHOLE_TOP, -WHOLE_TOP):
            self.assert_refused(-14, MADE, edge(0, 4, direction))


if __name__ == "__main__":
    unittest.main()
