import unittest

from notebooktests.notebook import answers

CALLS = [
    0, 0, 0, 9, 3, 3,
    1, 1, 0, 3, 2, 0, 5,
    2, 2, 5, 5, 1, 0, 1, 1,
    4, 4, 5, 8, 1, 2, 0, 3,
    11, 2,
    9, 6,
    7, 1, 1,
    11, 2,
    8, 0, 9,
    10, 6,
    3, 2, 2, 0, 7,
    11, 2,
    5, 0,
    5, 2,
    6, 4,
    5, 2,
    1, 30, 0, 0,
    0, 0, 0, 9, 3, 3,
    4, 7, 5, 8, 1, 0, 0, 4,
    12, 7,
    22,
    13,
    14, 1,
    15, 7,
    16,
    17, 0, 7,
    18, 0, 7, 1,
    19, 0, 1, 7,
    20, 7, 0,
    21, 7,
    8, 0, 9,
    23,
    20, 7, 2,
]
ANSWERS = [
    1, 0, 1, 0, 1, 0, 1, 1,
    2, 0, 1, 1, 2, 1, 1, 2, 1, 1, 1, 3, 1, 2,
    1, 0, 2, 0, 7, 1, 0, 1, -12, 1, 0, 1, 0, 1, -5,
    1, 0, 1, 1, 1, 1, 1, 1,
    3, 1, 7, 1,
    2, 1, 1,
    2, 1, 0,
    9, 2, 1, 2, 0, 3, 0, 3, 1, 4,
    5, 4, 1, 1, 0, 0,
    1, 1,
    3, 6, 6, 0,
    4, 1, 1, 0, 2,
    6, 5, 8, 1, 0, 0, 4,
    1, 3,
    4, 1, 7, 1, 0,
    1, -18,
]


class Interface(unittest.TestCase):
    def test_every_call_in_one_flat_list(self):
        self.assertEqual(answers(CALLS), ANSWERS)

    def test_gives_back_a_list_of_whole_numbers(self):
        told = answers(CALLS)
        self.assertIs(type(told), list)
        for number in told:
            self.assertIs(type(number), int)

    def test_what_is_handed_in_is_not_changed(self):
        calls = list(CALLS)
        answers(calls)
        self.assertEqual(calls, CALLS)

    def test_what_is_given_back_is_new(self):
        answers(CALLS).append(5)
        self.assertEqual(answers(CALLS), ANSWERS)

    def test_nothing_is_kept(self):
        self.assertEqual(answers([0, 0, 0, 9, 3, 3, 9, 1, 4, 1, 2, 0, 1]), [1, 0, 1, 1, 1, 1])
        self.assertEqual(answers([11, 0, 10, 1, 6, 1]), [1, -8, 1, -13, 1, -9])

    def test_no_mark_is_kept(self):
        line = [4, 1, 2, 0, 1, 23, 22, 23]
        for time in range(2):
            self.assertEqual(answers(line), [1, 1, 4, 1, 1, 3, 1, 1, 1, 1, 0])

    def test_calls_behind_a_long_row(self):
        calls = [2, 3, 400] + [0] * 400 + [2, 3, 2, 0, 8, 11, 3]
        self.assertEqual(answers(calls), [1, -10, 1, 0, 2, 0, 8])

    def test_four_hundred_calls(self):
        self.assertEqual(answers([0, 0, 0, 9, 3, 3] + [7, 0, 1] * 399), [1, 0, 1, 2] + [1, 3] * 398)

    def test_seventeen_thousand_numbers(self):
        # Twelve full cells, each read often by the next one, told again and again.
        calls = [2, 0, 2, 0, 1]
        how_many = 1
        for name in range(1, 12):
            calls += [2, name, 59] + [6, 1, name - 1] * 19 + [1, name - 1]
            how_many += 1
        expected = [1, 0] * how_many
        while len(calls) + 62 <= 17000 and how_many < 399:
            calls += [3, 11, 59] + [7, 1, 10] * 19 + [1, 10]
            expected += [1, 0]
            how_many += 1
        while len(calls) + 2 <= 17000 and how_many < 400:
            calls += [11, 11]
            expected += [2, 0, 1]
            how_many += 1
        self.assertEqual(answers(calls), expected)


if __name__ == "__main__":
    unittest.main()
