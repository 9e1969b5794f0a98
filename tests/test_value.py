import unittest

from helper import NotebookCase, WHOLE_TOP, cell, choice, put_test, run, slider, turn, value

MADE = [slider(0, 0, 9, 3, 3), choice(1, 0, [2, 0, 5]), cell(2, [5, 1, 0, 1, 1]), put_test(4, [1, 2])]


class Value(NotebookCase):
    def test_input(self):
        self.assertEqual(run(MADE + [value(0), value(1)])[4:], [[0, 3], [0, 2]])

    def test_cell(self):
        self.assertEqual(run(MADE + [value(2), turn(0, 2), value(2)])[4:], [[0, 1], [3], [0, 4]])

    def test_refused_cell(self):
        calls = MADE + [turn(1, 1), value(2), turn(1, 1), value(2)]
        self.assertEqual(run(calls)[4:], [[1], [1, 1], [2], [0, 0]])
        self.assertEqual(run([cell(0, [4, 0, 10 ** 12, 0, 2]), value(0)]), [[0], [1, 2]])

    def test_neither_input_nor_cell(self):
        for name in (4, 9, -1, 32, WHOLE_TOP, -WHOLE_TOP):
            self.assert_refused(-8, MADE, value(name))


if __name__ == "__main__":
    unittest.main()
