import unittest

from helper import (
    NotebookCase, cell, change, choice, drop_test, keep, last, mark, news, put_test, recall, run, slider, turn)

MADE = [
    slider(0, 0, 9, 3, 3), choice(1, 0, [2, 0, 5]), cell(2, [5, 1, 0, 1, 1]), put_test(4, [8, 1, 2, 0, 3]),
    put_test(0, [8, 1, 0, 0, 3])]


class Mark(NotebookCase):
    def test_how_many_tests(self):
        self.assertEqual(run([mark()] + MADE + [mark(), drop_test(0), mark()])[-3:], [[2], [0], [1]])
        self.assertEqual(run([mark()]), [[0]])
        self.assertEqual(last([put_test(number, [0, 1]) for number in range(8)] + [mark()]), [8])

    def test_in_the_place_of_those_before(self):
        calls = MADE + [mark(), turn(1, 1), news(), mark(), news(), turn(1, 1), news()]
        self.assertEqual(run(calls)[5:], [[2], [1], [1, 4, 1, 2], [2], [0], [2], [1, 4, 2, 1]])


class News(NotebookCase):
    def test_before_any_mark(self):
        self.assertEqual(run([news()] + MADE + [news()])[-1], [2, 4, 3, 1, 0, 3, 0])
        self.assertEqual(run([news()]), [[0]])

    def test_nothing_new(self):
        self.assertEqual(run(MADE + [mark(), news(), turn(0, 0), news()])[6:], [[0], [1], [0]])

    def test_all_verdicts_remembered_and_now(self):
        before = [slider(0, 0, 2, 1, 0), put_test(0, [10, 1, 0, 10, 3, 1, 0, 0, 1, 0, 1, 5, 0, 1, 0, 0, 0, 0])]
        # The verdict is 0 at 0, 2 at 1, 1 at 2.
        verdicts = (0, 2, 1)
        for place in range(3):
            for later in range(3):
                calls = before + [turn(0, place), mark(), turn(0, later - place), news()]
                expected = [0] if place == later else [1, 0, verdicts[place], verdicts[later]]
                self.assertEqual(last(calls), expected)

    def test_there_and_back(self):
        calls = MADE + [keep(0), mark(), turn(0, 2), news(), recall(0), news()]
        self.assertEqual(run(calls)[7:], [[3], [1, 4, 1, 0], [1], [0]])

    def test_in_the_order_of_the_tests(self):
        calls = [slider(0, 0, 1, 1, 0), put_test(9, [1, 0]), put_test(2, [0, 1]), put_test(5, [1, 0])]
        calls += [put_test(1, [9, 1, 0, 0, 0]), mark(), turn(0, 1), news()]
        self.assertEqual(last(calls), [3, 9, 0, 1, 5, 0, 1, 1, 1, 0])

    def test_test_made_since_the_mark(self):
        calls = MADE + [mark(), put_test(9, [0, 0]), news(), put_test(3, [5, 0, 1, 0, 0]), news(), mark(), news()]
        self.assertEqual(run(calls)[7:], [[1, 9, 3, 0], [1], [2, 9, 3, 0, 3, 3, 2], [4], [0]])

    def test_test_made_after_a_mark_of_none(self):
        self.assertEqual(last([mark(), put_test(1, [0, 1]), news()]), [1, 1, 3, 1])

    def test_changed_test_keeps_what_is_remembered(self):
        calls = MADE + [mark(), put_test(4, [0, 0]), news(), put_test(4, [0, 7]), news(), put_test(0, [0, 5]), news()]
        self.assertEqual(run(calls)[6:], [[0], [1, 4, 1, 0], [0], [0], [0], [1, 0, 0, 1]])

    def test_changed_cell(self):
        self.assertEqual(last(MADE + [mark(), change(2, [5, 1, 0, 0, 0]), news()]), [1, 4, 1, 2])

    def test_dropped_test_is_out_of_the_mark(self):
        calls = MADE + [mark(), turn(1, 1), drop_test(4), news(), put_test(4, [8, 1, 2, 0, 3]), news()]
        self.assertEqual(run(calls)[7:], [[0], [0], [1], [1, 4, 3, 2]])

    def test_dropped_and_made_again_with_the_same_verdict(self):
        calls = MADE + [mark(), drop_test(4), put_test(4, [8, 1, 2, 0, 3]), news(), mark(), news()]
        self.assertEqual(run(calls)[8:], [[1, 4, 3, 1], [2], [0]])

    def test_refused_drop_leaves_the_mark(self):
        self.assertEqual(run(MADE + [mark(), drop_test(5), news()])[6:], [[-9], [0]])

    def test_news_changes_nothing(self):
        calls = MADE + [mark(), turn(1, 1), news(), news(), turn(1, -1), news()]
        self.assertEqual(run(calls)[7:], [[1, 4, 1, 2], [1, 4, 1, 2], [0], [0]])


if __name__ == "__main__":
    unittest.main()
