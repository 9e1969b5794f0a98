import unittest

from helper import NotebookCase, TOP, WHOLE_TOP, cell, choice, run, set_to, slider, turn, value

EIGHT_INPUTS = [choice(name, 1, [4, 2, 9]) for name in range(8)]


class Choice(NotebookCase):
    def test_stands_at_its_place(self):
        self.assertEqual(run([choice(1, 2, [2, 0, 5]), value(1)]), [[0], [0, 5]])
        self.assertEqual(run([choice(1, 0, [2, 0, 5]), value(1)]), [[0], [0, 2]])

    def test_keeps_the_order_told(self):
        calls = [choice(1, 0, [2, 0, -5]), turn(1, 1), value(1), turn(1, 1), value(1), set_to(1, 2)]
        self.assertEqual(run(calls), [[0], [1], [0, 0], [2], [0, -5], [0]])

    def test_64_values_and_65(self):
        self.assertEqual(run([choice(1, 63, range(64)), value(1)]), [[0], [0, 63]])
        self.assert_refused(-5, [], choice(1, 0, range(65)))
        self.assert_refused(-5, [], choice(1, 0, range(400)))

    def test_ends_of_the_range(self):
        self.assertEqual(run([choice(1, 1, [TOP, -TOP]), value(1)]), [[0], [0, -TOP]])

    def test_name_outside(self):
        for name in (-1, 32, WHOLE_TOP, -WHOLE_TOP):
            self.assert_refused(-1, EIGHT_INPUTS, choice(name, 9, []))

    def test_name_there_already(self):
        before = EIGHT_INPUTS + [cell(20, [0, 1])]
        self.assert_refused(-2, before, choice(7, 0, [1]))
        self.assert_refused(-2, before, choice(20, 0, []))
        self.assert_refused(-2, [slider(7, 0, 0, 1, 0)], choice(7, 0, [1]))

    def test_eight_inputs_and_nine(self):
        self.assertEqual(run(EIGHT_INPUTS), [[0]] * 8)
        self.assert_refused(-3, EIGHT_INPUTS, choice(8, 0, [1]))
        self.assert_refused(-3, EIGHT_INPUTS, choice(8, 0, []))
        both_sorts = EIGHT_INPUTS[:4] + [slider(name, 0, 0, 1, 0) for name in range(4, 8)]
        self.assert_refused(-3, both_sorts, choice(8, 0, [1]))

    def test_not_such_a_list(self):
        self.assert_refused(-5, [], choice(1, 0, []))
        self.assert_refused(-5, [], choice(1, 0, [3, 4, 3]))
        self.assert_refused(-5, [], choice(1, 5, [3, 3]))

    def test_wrong_list_comes_before_wrong_value(self):
        self.assert_refused(-5, [], choice(1, 0, [TOP + 1, TOP + 1]))
        self.assert_refused(-5, [], choice(1, 0, list(range(64)) + [WHOLE_TOP]))

    def test_value_out_of_range(self):
        self.assert_refused(-4, [], choice(1, 0, [3, TOP + 1]))
        self.assert_refused(-4, [], choice(1, 0, [-TOP - 1]))
        self.assert_refused(-4, [], choice(1, 7, [-WHOLE_TOP, 0]))

    def test_place_that_it_has_not(self):
        self.assert_refused(-6, [], choice(1, 3, [2, 0, 5]))
        self.assert_refused(-6, [], choice(1, -1, [2, 0, 5]))
        self.assert_refused(-6, [], choice(1, WHOLE_TOP, [2, 0, 5]))


if __name__ == "__main__":
    unittest.main()
