import unittest

from helper import NotebookCase, TOP, WHOLE_TOP, cell, choice, run, set_to, slider, turn, value

INPUTS = [slider(0, 0, 9, 3, 3), choice(1, 0, [2, 0, 5]), cell(2, [0, 3])]


class Turn(NotebookCase):
    def test_more_and_less(self):
        calls = INPUTS + [turn(0, 1), value(0), turn(0, -2), value(0), turn(0, 0), turn(1, 2), value(1), value(0)]
        self.assertEqual(run(calls)[3:], [[2], [0, 6], [0], [0, 0], [0], [2], [0, 5], [0, 0]])

    def test_no_more_than_its_last_and_no_less_than_0(self):
        calls = INPUTS + [turn(0, 2), turn(0, 1), turn(0, -3), turn(0, -1), turn(0, 4), turn(0, -4)]
        self.assertEqual(run(calls)[3:], [[3], [3], [0], [0], [3], [0]])
        calls = INPUTS + [turn(0, WHOLE_TOP), value(0), turn(0, -WHOLE_TOP), value(0)]
        self.assertEqual(run(calls)[3:], [[3], [0, 9], [0], [0, 0]])

    def test_64_places(self):
        self.assertEqual(run([slider(0, 0, 63, 1, 0), turn(0, 62), turn(0, 1), turn(0, 1)]), [[0], [62], [63], [63]])

    def test_no_such_input(self):
        for name in (2, 9, -1, 32, WHOLE_TOP, -WHOLE_TOP):
            self.assert_refused(-7, INPUTS, turn(name, 1))


class Set(NotebookCase):
    def test_stands_at_the_values_place(self):
        calls = INPUTS + [set_to(0, 9), value(0), set_to(1, 0), value(1), set_to(1, 0), set_to(0, 0), value(0)]
        self.assertEqual(run(calls)[3:], [[3], [0, 9], [1], [0, 0], [1], [0], [0, 0]])

    def test_no_such_input(self):
        for name in (2, 9, -1, 32, WHOLE_TOP, -WHOLE_TOP):
            self.assert_refused(-7, INPUTS, set_to(name, 3))
            self.assert_refused(-7, INPUTS, set_to(name, WHOLE_TOP))

    def test_value_that_it_has_not(self):
        for number in (1, -3, 12, TOP + 1, WHOLE_TOP, -WHOLE_TOP):
            self.assert_refused(-6, INPUTS, set_to(0, number))
        self.assert_refused(-6, INPUTS, set_to(1, 1))


if __name__ == "__main__":
    unittest.main()
