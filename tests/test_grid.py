import unittest

from helper import NotebookCase, TOP, WHOLE_TOP, cell, choice, grid, last, put_test, run, slider, sweep, turn

MADE = [
    slider(0, 0, 9, 3, 3), choice(1, 0, [2, 0, 5]), cell(2, [5, 1, 0, 1, 1]), put_test(4, [8, 1, 2, 0, 3]),
    slider(6, 0, 63, 1, 20), choice(7, 0, [8]), slider(8, 0, 15, 1, 3), slider(9, 0, 16, 1, 3)]
TWICE_32 = [slider(0, 0, 31, 1, 5), slider(1, 0, 31, 1, 0)]


class Grid(NotebookCase):
    def test_how_many_pass_fail_and_are_refused(self):
        # 0 3 6 9 divided by 2: 0 1 3 4, by 0: refused, by 5: 0 0 1 1.
        self.assertEqual(run(MADE + [grid(0, 1, 4), grid(1, 0, 4)])[8:], [[6, 2, 4], [6, 2, 4]])

    def test_where_the_two_stand_does_not_matter(self):
        self.assertEqual(last(MADE + [turn(0, 2), turn(1, 1), grid(0, 1, 4)]), [6, 2, 4])

    def test_the_others_stand_where_they_are(self):
        calls = MADE + [grid(0, 7, 4), turn(1, 1), grid(0, 7, 4), turn(1, 1), grid(7, 0, 4)]
        self.assertEqual(run(calls)[8:], [[2, 2, 0], [1], [0, 0, 4], [2], [4, 0, 0]])

    def test_inputs_on_which_the_test_does_not_rest(self):
        self.assertEqual(run(MADE + [grid(6, 8, 4), grid(0, 8, 4)])[8:], [[1024, 0, 0], [32, 32, 0]])

    def test_one_value_each(self):
        self.assertEqual(last([choice(0, 0, [3]), choice(1, 0, [4]), put_test(0, [1, 0]), grid(0, 1, 0)]), [1, 0, 0])

    def test_1024_settings(self):
        before = TWICE_32 + [put_test(0, [8, 1, 0, 1, 1])]
        self.assertEqual(last(before + [grid(0, 1, 0)]), [496, 528, 0])
        before = TWICE_32 + [put_test(0, [5, 1, 0, 1, 1])]
        self.assertEqual(last(before + [grid(0, 1, 0)]), [sum(32 - b for b in range(1, 32)), 1024 - 32 - 496, 32])
        before = MADE + [put_test(0, [9, 1, 6, 1, 8])]
        self.assertEqual(run(before + [grid(6, 8, 0), grid(8, 6, 0)])[9:], [[16, 1008, 0], [16, 1008, 0]])

    def test_out_of_range_in_some_of_them(self):
        before = TWICE_32 + [cell(2, [4, 1, 0, 0, TOP // 31]), put_test(0, [2, 1, 2, 1, 1])]
        limit = TOP // 31
        refused = sum(1 for a in range(32) for b in range(32) if a * limit + b > TOP)
        self.assertGreater(refused, 0)
        self.assertEqual(last(before + [grid(0, 1, 0)]), [1023 - refused, 1, refused])

    def test_sweep_tells_as_many(self):
        told = run(MADE + [sweep(0, 4), grid(0, 7, 4)])[8:]
        self.assertEqual(told[1], [told[0][1:].count(1), told[0][1:].count(0), told[0][1:].count(2)])

    def test_no_such_input(self):
        for name in (2, 4, 31, -1, 32, WHOLE_TOP, -WHOLE_TOP):
            self.assert_refused(-7, MADE, grid(name, 0, 4))
            self.assert_refused(-7, MADE, grid(0, name, 4))
            self.assert_refused(-7, MADE, grid(name, name, 4))
            self.assert_refused(-7, MADE, grid(name, 6, 30))

    def test_the_same_told_twice(self):
        self.assert_refused(-15, MADE, grid(0, 0, 4))
        self.assert_refused(-15, MADE, grid(0, 0, 30))
        self.assert_refused(-15, MADE, grid(6, 6, 4))
        self.assert_refused(-15, MADE, grid(6, 6, 30))

    def test_no_such_test(self):
        for number in (0, 2, 31, -1, 32, WHOLE_TOP, -WHOLE_TOP):
            self.assert_refused(-9, MADE, grid(0, 1, number))
            self.assert_refused(-9, MADE, grid(6, 9, number))

    def test_more_than_1024_settings(self):
        self.assert_refused(-16, MADE, grid(6, 9, 4))
        self.assert_refused(-16, MADE, grid(9, 6, 4))
        self.assert_refused(-16, TWICE_32 + [slider(2, 0, 32, 1, 0), put_test(0, [0, 1])], grid(0, 2, 0))
        self.assert_refused(-16, [slider(0, 1, 25, 1, 1), slider(1, 1, 41, 1, 1), put_test(0, [0, 1])], grid(0, 1, 0))
        self.assert_refused(-16, MADE + [slider(10, 0, 63, 1, 0)], grid(6, 10, 4))


if __name__ == "__main__":
    unittest.main()
