import unittest

from helper import (
    NotebookCase, TOP, WHOLE_TOP, cell, change, choice, drop, drop_test, keep, last, nearest, put_test, recall, run,
    set_to, slider, turn)

MADE = [slider(0, 0, 9, 3, 3), choice(1, 0, [2, 0, 5]), cell(2, [5, 1, 0, 1, 1]), put_test(4, [8, 1, 2, 0, 3])]


def at_least(name, number):
    return [8, 0, number - 1, 1, name]


class Nearest(NotebookCase):
    def test_distance_0(self):
        self.assertEqual(last(MADE + [nearest(4, 1)]), [0, 2, 0, 1, 1, 0])
        self.assertEqual(last(MADE + [turn(1, 1), nearest(4, 2)]), [0, 2, 0, 1, 1, 1])
        self.assertEqual(last(MADE + [turn(0, 2), nearest(4, 0)]), [0, 2, 0, 3, 1, 0])

    def test_distances_3_4_and_5(self):
        before = [slider(0, 0, 63, 1, 30)]
        for number, expected in ((33, [3, 1, 0, 33]), (34, [4, 1, 0, 34]), (35, [-18]), (64, [-18])):
            self.assertEqual(last(before + [put_test(0, at_least(0, number)), nearest(0, 1)]), expected)
        for number, expected in ((28, [3, 1, 0, 27]), (27, [4, 1, 0, 26]), (26, [-18])):
            self.assertEqual(last(before + [put_test(0, at_least(0, number)), nearest(0, 0)]), expected)

    def test_refusal_5_steps_away_leaves_everything(self):
        self.assert_refused(-18, [slider(0, 0, 63, 1, 30), put_test(0, at_least(0, 35))], nearest(0, 1))

    def test_distance_is_of_places_and_not_of_values(self):
        calls = [choice(0, 1, [900, 5, -TOP, 4, 6, 7, TOP]), put_test(0, [9, 1, 0, 0, 7]), nearest(0, 1)]
        self.assertEqual(last(calls), [4, 1, 0, 5])

    def test_distance_is_the_sum_over_the_inputs(self):
        before = [slider(0, 0, 9, 1, 3), slider(1, 0, 9, 1, 3)]
        both = [4] + at_least(0, 5) + at_least(1, 5)
        self.assertEqual(last(before + [put_test(0, both), nearest(0, 1)]), [4, 2, 0, 5, 1, 5])
        both = [4] + at_least(0, 5) + at_least(1, 6)
        self.assertEqual(last(before + [put_test(0, both), nearest(0, 1)]), [-18])

    def test_eight_inputs_of_which_four_are_turned(self):
        before = [slider(name, 0, 63, 1, 5) for name in range(8)]
        formula = [9, 0, 16384]
        for name in range(7):
            formula += [4, 3, 1, name, 0, 4]
        formula += [3, 1, 7, 0, 4]
        self.assertEqual(last(before + [put_test(0, formula), nearest(0, 1)]), [-18])
        formula[2] = 16
        self.assertEqual(last(before + [put_test(0, formula), nearest(0, 1)]),
                         [4, 8, 0, 5, 1, 5, 2, 5, 3, 5, 4, 6, 5, 6, 6, 6, 7, 6])

    def test_of_one_distance_the_lesser_places(self):
        before = [slider(0, 0, 9, 1, 5), slider(1, 0, 9, 1, 5)]
        unlike = before + [put_test(0, [9, 1, 0, 1, 1])]
        self.assertEqual(last(unlike + [nearest(0, 0)]), [1, 2, 0, 4, 1, 5])
        more = before + [put_test(0, [8, 0, 10, 2, 1, 0, 1, 1])]
        self.assertEqual(last(more + [nearest(0, 1)]), [1, 2, 0, 5, 1, 6])
        less = before + [put_test(0, [8, 2, 1, 0, 1, 1, 0, 8])]
        self.assertEqual(last(less + [nearest(0, 1)]), [3, 2, 0, 2, 1, 5])
        more = before + [put_test(0, [8, 0, 12, 2, 1, 0, 1, 1])]
        self.assertEqual(last(more + [nearest(0, 1)]), [3, 2, 0, 5, 1, 8])
        apart = before + [put_test(0, [9, 3, 1, 0, 1, 1, 0, 3])]
        self.assertEqual(last(apart + [nearest(0, 1)]), [3, 2, 0, 5, 1, 2])

    def test_less_at_the_first_place_even_where_it_is_more_at_the_others(self):
        before = [slider(0, 0, 9, 1, 5), slider(1, 0, 9, 1, 5), slider(2, 0, 9, 1, 5)]
        # The two settings at distance 2: 4 5 6 and 5 4 4.
        first = [4, 9, 1, 0, 0, 4, 9, 1, 2, 0, 6]
        second = [4, 9, 1, 1, 0, 4, 9, 1, 2, 0, 4]
        self.assertEqual(last(before + [put_test(0, [2] + first + second), nearest(0, 1)]), [2, 3, 0, 4, 1, 5, 2, 6])

    def test_a_lesser_distance_comes_before_lesser_places(self):
        calls = [slider(0, 0, 9, 1, 5), put_test(0, [2, 9, 1, 0, 0, 3, 9, 1, 0, 0, 6]), nearest(0, 1)]
        self.assertEqual(last(calls), [1, 1, 0, 6])

    def test_order_of_inputs_is_that_of_making(self):
        before = [slider(7, 0, 9, 1, 5), slider(3, 0, 9, 1, 5), put_test(0, [9, 1, 3, 1, 7])]
        self.assertEqual(last(before + [nearest(0, 0)]), [1, 2, 7, 4, 3, 5])

    def test_inputs_on_which_it_does_not_rest_stay_and_are_not_told(self):
        before = [slider(9, 0, 9, 1, 4)] + MADE + [slider(8, 0, 9, 1, 4)]
        self.assertEqual(last(before + [nearest(4, 0)]), [1, 2, 0, 2, 1, 0])

    def test_input_that_is_read_in_vain_is_told(self):
        calls = [slider(0, 0, 9, 1, 5), slider(1, 0, 9, 1, 5), put_test(0, [10, 0, 1, 9, 1, 1, 0, 7, 1, 0])]
        self.assertEqual(last(calls + [nearest(0, 1)]), [2, 2, 0, 5, 1, 7])

    def test_no_place_below_the_first_or_above_the_last(self):
        before = [slider(0, 0, 1, 1, 0), choice(1, 0, [7]), put_test(0, [3, 1, 0, 0, 2])]
        self.assertEqual(run(before + [nearest(0, 0), nearest(0, 1), nearest(0, 2)])[3:], [[-18], [0, 1, 0, 0], [-18]])
        before = [choice(1, 0, [7]), put_test(0, [1, 1])]
        self.assertEqual(run(before + [nearest(0, 0), nearest(0, 1), nearest(0, 2)])[2:], [[-18], [0, 1, 1, 0], [-18]])

    def test_64_values_at_both_ends(self):
        for place, goal in ((0, 4), (63, 59)):
            calls = [slider(0, 0, 63, 1, place), put_test(0, [9, 1, 0, 0, goal]), nearest(0, 1)]
            self.assertEqual(last(calls), [4, 1, 0, goal])

    def test_rests_on_no_input(self):
        before = [slider(0, 0, 9, 1, 5), cell(1, [0, 0]), put_test(0, [0, 5]), put_test(1, [1, 1])]
        before.append(put_test(2, [5, 0, 1, 1, 1]))
        for number, verdict in ((0, 1), (1, 0), (2, 2)):
            for asked in (0, 1, 2):
                expected = [0, 0] if asked == verdict else [-18]
                self.assertEqual(last(before + [nearest(number, asked)]), expected)

    def test_refused_of_both_kinds(self):
        before = [slider(0, -9, 9, 1, 3), put_test(0, [5, 0, 1, 1, 0])]
        self.assertEqual(last(before + [nearest(0, 2)]), [3, 1, 0, 9])
        before = [slider(0, -9, 9, 1, 3), put_test(0, [2, 0, TOP - 5, 1, 0])]
        self.assertEqual(last(before + [nearest(0, 2)]), [3, 1, 0, 15])

    def test_from_refused_to_others(self):
        before = [slider(0, 0, 9, 1, 0), cell(1, [5, 0, 2, 1, 0]), put_test(0, [1, 1])]
        self.assertEqual(run(before + [nearest(0, 0), nearest(0, 1), nearest(0, 2)])[3:],
                         [[3, 1, 0, 3], [1, 1, 0, 1], [0, 1, 0, 0]])

    def test_no_such_test(self):
        for number in (0, 2, 31, -1, 32, WHOLE_TOP, -WHOLE_TOP):
            self.assert_refused(-9, MADE, nearest(number, 1))
            self.assert_refused(-9, MADE, nearest(number, 3))
        self.assert_refused(-9, MADE + [drop_test(4)], nearest(4, 1))

    def test_verdict_outside(self):
        for verdict in (-1, 3, WHOLE_TOP, -WHOLE_TOP):
            self.assert_refused(-17, MADE, nearest(4, verdict))
        self.assert_refused(-17, [put_test(0, [0, 1])], nearest(0, 3))


class NearestBetweenChanges(NotebookCase):
    """What is worked out for one nearest is not taken for another one after a change."""

    def assert_same_alone(self, before, changing):
        asked = [nearest(4, verdict) for verdict in (0, 1, 2)]
        between = run(before + asked + [changing] + asked)[-3:]
        self.assertEqual(between, run(before + [changing] + asked)[-3:])
        self.assertNotEqual(between, run(before + asked)[-3:], changing)

    def test_inputs_that_stand_elsewhere(self):
        self.assert_same_alone(MADE, turn(0, 1))
        self.assert_same_alone(MADE, set_to(1, 5))
        self.assert_same_alone(MADE + [keep(0), turn(0, 2)], recall(0))

    def test_other_formulas(self):
        self.assert_same_alone(MADE, change(2, [4, 1, 0, 1, 1]))
        self.assert_same_alone(MADE, put_test(4, [8, 0, 3, 1, 2]))

    def test_made_anew(self):
        before = MADE + [slider(5, 0, 9, 1, 0), put_test(4, [2, 1, 0, 1, 1]), nearest(4, 2), nearest(4, 0)]
        before += [put_test(4, [0, 1]), drop(2), drop(0), slider(0, 5, 9, 1, 7), put_test(4, [3, 1, 0, 1, 1])]
        self.assertEqual(run(before + [nearest(4, 0), nearest(4, 1)])[-2:], [[4, 2, 1, 2, 0, 0], [0, 2, 1, 0, 0, 2]])


if __name__ == "__main__":
    unittest.main()
