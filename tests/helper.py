"""Calls written by name, their answers told call by call, and a check that a refusal changes nothing."""

import unittest

from notebooktests.notebook import answers

TOP = 10 ** 12
WHOLE_TOP = 10 ** 18


def slider(name, low, high, stride, value):
    return [0, name, low, high, stride, value]


def choice(name, place, values):
    return [1, name, place, len(values)] + list(values)


def cell(name, formula):
    return [2, name, len(formula)] + list(formula)


def change(name, formula):
    return [3, name, len(formula)] + list(formula)


def put_test(number, formula):
    return [4, number, len(formula)] + list(formula)


def drop(name):
    return [5, name]


def drop_test(number):
    return [6, number]


def turn(name, k):
    return [7, name, k]


def set_to(name, value):
    return [8, name, value]


def keep(preset):
    return [9, preset]


def recall(preset):
    return [10, preset]


def value(name):
    return [11, name]


def verdict(number):
    return [12, number]


def verdicts():
    return [13]


def rests(name):
    return [14, name]


def rests_of_test(number):
    return [15, number]


def inputs():
    return [16]


def sweep(name, number):
    return [17, name, number]


def edge(name, number, direction):
    return [18, name, number, direction]


def grid(x, y, number):
    return [19, x, y, number]


def nearest(number, verdict_asked):
    return [20, number, verdict_asked]


def inline(number):
    return [21, number]


def mark():
    return [22]


def news():
    return [23]


def run(calls):
    """The answers of the calls, one list each."""
    flat = []
    for call in calls:
        flat.extend(call)
    told = answers(flat)
    answered = []
    at = 0
    while at < len(told):
        answered.append(told[at + 1:at + 1 + told[at]])
        at += 1 + told[at]
    assert len(answered) == len(calls), (calls, told)
    return answered


def last(calls):
    return run(calls)[-1]


def look_only():
    """Calls that look and change nothing."""
    calls = [inputs(), verdicts(), news()]
    for name in range(32):
        calls += [value(name), rests(name)]
    return calls


def look_at_everything():
    """Calls whose answers tell one notebook from another, as far as calls can."""
    calls = look_only() + [inline(number) for number in range(32)]
    for preset in range(10):
        calls.append(recall(preset))
    calls += look_only() + [mark()]
    for number in range(32):
        calls.append(drop_test(number))
    for name in range(31, -1, -1):
        calls.append(drop(name))
    for name in range(32):
        calls.append(drop(name))
    return calls


def look_at_tests():
    return [drop(name) for name in range(32)] + [put_test(number, [0, 1]) for number in range(32)]


class NotebookCase(unittest.TestCase):
    def assert_refused(self, refusal, before, call):
        for look in (look_at_everything(), look_at_tests()):
            without = run(before + look)
            refused = run(before + [call] + look)
            self.assertEqual(refused[len(before)], [refusal], call)
            self.assertEqual(refused[len(before) + 1:], without[len(before):], call)

    def assert_value(self, expected, formula, before=()):
        """The formula as a cell's with the free name 31."""
        self.assertEqual(last(list(before) + [cell(31, formula), value(31)]), [0, expected])

    def assert_kind(self, kind, formula, before=()):
        self.assertEqual(last(list(before) + [cell(31, formula), value(31)]), [1, kind])


def nested_sum(how_many):
    """The sum of that many ones: 3 * how_many - 1 numbers."""
    return [2, 0, 1] * (how_many - 1) + [0, 1]
