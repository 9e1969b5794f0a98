"""Lines drawn by a fixed seed, answered by the program and by a slow model written from the document's words."""

import itertools
import random
import unittest

from helper import TOP, run

FORMULA_CALLS = (2, 3, 4)


class Refused(Exception):
    def __init__(self, kind):
        self.kind = kind


def formula_end(numbers, at):
    """Where the formula that begins there ends; raises ValueError or IndexError where there is none."""
    sign = numbers[at]
    if sign in (0, 1):
        told = numbers[at + 1]
        if not (-TOP <= told <= TOP if sign == 0 else 0 <= told <= 31):
            raise ValueError
        return at + 2
    if not 2 <= sign <= 10:
        raise ValueError
    end = at + 1
    for part in range(3 if sign == 10 else 2):
        end = formula_end(numbers, end)
    return end


def is_formula(numbers):
    try:
        return len(numbers) <= 60 and formula_end(numbers, 0) == len(numbers)
    except (ValueError, IndexError):
        return False


def names_read(numbers):
    at = 0
    names = set()
    while at < len(numbers):
        if numbers[at] == 1:
            names.add(numbers[at + 1])
        at += 2 if numbers[at] in (0, 1) else 1
    return names


class Model:
    def __init__(self):
        self.inputs = []        # [name, values, place]
        self.cells = []         # [name, formula]
        self.tests = []         # [number, formula]
        self.presets = {}
        self.marked = {}

    def find(self, kept, name):
        return next((entry for entry in kept if entry[0] == name), None)

    def setting(self):
        return {name: place for name, values, place in self.inputs}

    def work(self, numbers, at, setting):
        """The value and where the formula ends."""
        sign = numbers[at]
        if sign == 0:
            return numbers[at + 1]
        if sign == 1:
            return self.value_at(numbers[at + 1], setting)
        starts = [at + 1]
        for part in range(2 if sign == 10 else 1):
            starts.append(formula_end(numbers, starts[-1]))
        first = self.work(numbers, starts[0], setting)
        if sign == 10:
            return self.work(numbers, starts[1] if first != 0 else starts[2], setting)
        second = self.work(numbers, starts[1], setting)
        if sign == 5:
            if second == 0:
                raise Refused(1)
            return first // second
        if sign in (2, 3, 4):
            result = {2: first + second, 3: first - second, 4: first * second}[sign]
            if abs(result) > TOP:
                raise Refused(2)
            return result
        return {6: max(first, second), 7: min(first, second), 8: int(first < second), 9: int(first == second)}[sign]

    def value_at(self, name, setting):
        entry = self.find(self.inputs, name)
        if entry:
            return entry[1][setting[name]]
        return self.work(self.find(self.cells, name)[1], 0, setting)

    def verdict_at(self, number, setting):
        try:
            return int(self.work(self.find(self.tests, number)[1], 0, setting) != 0)
        except Refused:
            return 2

    def rests(self, formula):
        found = set()
        for name in names_read(formula):
            entry = self.find(self.cells, name)
            found |= self.rests(entry[1]) if entry else {name}
        return found

    def rests_in_order(self, formula):
        found = self.rests(formula)
        return [entry[0] for entry in self.inputs if entry[0] in found]

    def inline(self, numbers, at=0):
        sign = numbers[at]
        if sign == 1 and self.find(self.cells, numbers[at + 1]):
            return self.inline(self.find(self.cells, numbers[at + 1])[1])
        if sign in (0, 1):
            return numbers[at:at + 2]
        told = [sign]
        for part in range(3 if sign == 10 else 2):
            at = formula_end(numbers, at + 1) - 1 if part else at
            told += self.inline(numbers, at + 1)
        return told

    def has(self, name):
        return self.find(self.inputs, name) or self.find(self.cells, name)

    def new_refusal(self, name, kept, most):
        if not 0 <= name <= 31:
            return -1
        if self.has(name):
            return -2
        return -3 if len(kept) == most else 0

    def answer(self, call):
        names = ("slider choice cell change test drop drop_test turn set keep recall value verdict verdicts rests "
                 "test_rests inputs sweep edge grid nearest inline_call mark news").split()
        return getattr(self, "do_" + names[call[0]])(*self.arguments(call))

    def arguments(self, call):
        if call[0] == 1:
            return [call[1], call[2], call[4:]]
        if call[0] in FORMULA_CALLS:
            return [call[1], call[3:]]
        return call[1:]

    def do_slider(self, name, low, high, stride, value):
        refusal = self.new_refusal(name, self.inputs, 8)
        if refusal:
            return [refusal]
        if max(abs(low), abs(high), abs(value)) > TOP:
            return [-4]
        if stride < 1 or low > high or (high - low) // stride >= 64:
            return [-5]
        values = list(range(low, high + 1, stride))
        if value not in values:
            return [-6]
        self.inputs.append([name, values, values.index(value)])
        return [0]

    def do_choice(self, name, place, values):
        refusal = self.new_refusal(name, self.inputs, 8)
        if refusal:
            return [refusal]
        if not values or len(values) > 64 or len(set(values)) < len(values):
            return [-5]
        if any(abs(value) > TOP for value in values):
            return [-4]
        if not 0 <= place < len(values):
            return [-6]
        self.inputs.append([name, values, place])
        return [0]

    def formula_refusal(self, formula, allowed):
        if not is_formula(formula):
            return -10
        return 0 if names_read(formula) <= set(allowed) else -11

    def do_cell(self, name, formula):
        refusal = self.new_refusal(name, self.cells, 12)
        refusal = refusal or self.formula_refusal(formula, [entry[0] for entry in self.inputs + self.cells])
        if refusal:
            return [refusal]
        self.cells.append([name, formula])
        return [0]

    def do_change(self, name, formula):
        entry = self.find(self.cells, name)
        if not entry:
            return [-8]
        before = self.cells[:self.cells.index(entry)]
        refusal = self.formula_refusal(formula, [other[0] for other in self.inputs + before])
        if refusal:
            return [refusal]
        entry[1] = formula
        return [0]

    def do_test(self, number, formula):
        if not 0 <= number <= 31:
            return [-1]
        entry = self.find(self.tests, number)
        if not entry and len(self.tests) == 8:
            return [-3]
        refusal = self.formula_refusal(formula, [other[0] for other in self.inputs + self.cells])
        if refusal:
            return [refusal]
        if entry:
            entry[1] = formula
            return [0]
        self.tests.append([number, formula])
        return [1]

    def do_drop(self, name):
        entry = self.has(name)
        if not entry:
            return [-7]
        if any(name in names_read(other[1]) for other in self.cells + self.tests):
            return [-12]
        (self.inputs if entry in self.inputs else self.cells).remove(entry)
        for preset in self.presets.values():
            preset.pop(name, None)
        return [0]

    def do_drop_test(self, number):
        entry = self.find(self.tests, number)
        if not entry:
            return [-9]
        self.tests.remove(entry)
        self.marked.pop(number, None)
        return [0]

    def do_turn(self, name, k):
        entry = self.find(self.inputs, name)
        if not entry:
            return [-7]
        entry[2] = sorted((0, entry[2] + k, len(entry[1]) - 1))[1]
        return [entry[2]]

    def do_set(self, name, value):
        entry = self.find(self.inputs, name)
        if not entry:
            return [-7]
        if value not in entry[1]:
            return [-6]
        entry[2] = entry[1].index(value)
        return [entry[2]]

    def do_keep(self, preset):
        if not 0 <= preset <= 9:
            return [-13]
        self.presets[preset] = {name: values[place] for name, values, place in self.inputs}
        return [len(self.inputs)]

    def do_recall(self, preset):
        if preset not in self.presets:
            return [-13]
        before = self.setting()
        for name, value in self.presets[preset].items():
            self.do_set(name, value)
        return [sum(before[name] != place for name, place in self.setting().items())]

    def do_value(self, name):
        if not self.has(name):
            return [-8]
        try:
            return [0, self.value_at(name, self.setting())]
        except Refused as refused:
            return [1, refused.kind]

    def do_verdict(self, number):
        return [self.verdict_at(number, self.setting())] if self.find(self.tests, number) else [-9]

    def verdicts(self):
        return [(number, self.verdict_at(number, self.setting())) for number, formula in self.tests]

    def do_verdicts(self):
        return [len(self.tests)] + [part for pair in self.verdicts() for part in pair]

    def do_rests(self, name):
        if not self.has(name):
            return [-8]
        names = self.rests_in_order([1, name])
        return [len(names)] + names

    def do_test_rests(self, number):
        if not self.find(self.tests, number):
            return [-9]
        names = self.rests_in_order(self.find(self.tests, number)[1])
        return [len(names)] + names

    def do_inputs(self):
        told = [len(self.inputs)]
        for name, values, place in self.inputs:
            told += [name, values[place], place, len(values)]
        return told

    def do_sweep(self, name, number):
        entry = self.find(self.inputs, name)
        if not entry:
            return [-7]
        if not self.find(self.tests, number):
            return [-9]
        places = range(len(entry[1]))
        return [len(places)] + [self.verdict_at(number, {**self.setting(), name: place}) for place in places]

    def do_edge(self, name, number, direction):
        swept = self.do_sweep(name, number)
        if swept[0] < 0:
            return swept
        if direction not in (1, -1):
            return [-14]
        now = self.setting()[name]
        onward = swept[1:][now:] if direction == 1 else swept[1:][:now + 1][::-1]
        return [next((steps for steps, verdict in enumerate(onward) if verdict != onward[0]), 0)]

    def do_grid(self, x, y, number):
        first = self.find(self.inputs, x)
        second = self.find(self.inputs, y)
        if not first or not second:
            return [-7]
        if x == y:
            return [-15]
        if not self.find(self.tests, number):
            return [-9]
        if len(first[1]) * len(second[1]) > 1024:
            return [-16]
        counts = [0, 0, 0]
        for a in range(len(first[1])):
            for b in range(len(second[1])):
                counts[self.verdict_at(number, {**self.setting(), x: a, y: b})] += 1
        return [counts[1], counts[0], counts[2]]

    def do_nearest(self, number, verdict):
        entry = self.find(self.tests, number)
        if not entry:
            return [-9]
        if not 0 <= verdict <= 2:
            return [-17]
        names = self.rests_in_order(entry[1])
        found = []
        for steps in itertools.product(range(-4, 5), repeat=len(names)):
            distance = sum(map(abs, steps))
            places = [self.setting()[name] + step for name, step in zip(names, steps)]
            there = all(0 <= place < len(self.find(self.inputs, name)[1]) for name, place in zip(names, places))
            if distance <= 4 and there:
                if self.verdict_at(number, {**self.setting(), **dict(zip(names, places))}) == verdict:
                    found.append((distance, places))
        if not found:
            return [-18]
        distance, places = min(found)
        return [distance, len(names)] + [part for pair in zip(names, places) for part in pair]

    def do_inline_call(self, number):
        entry = self.find(self.tests, number)
        if not entry:
            return [-9]
        told = self.inline(entry[1])
        return [-19] if len(told) > 200 else [len(told)] + told

    def do_mark(self):
        self.marked = dict(self.verdicts())
        return [len(self.tests)]

    def do_news(self):
        fresh = [(number, self.marked.get(number, 3), now) for number, now in self.verdicts()
                 if self.marked.get(number, 3) != now]
        return [len(fresh)] + [part for row in fresh for part in row]


class Drawer:
    """Draws calls that mostly fit what is there."""

    def __init__(self, seed, model):
        self.random = random.Random(seed)
        self.model = model

    def one_of(self, kept):
        if kept and self.random.random() < 0.9:
            return self.random.choice(kept)[0]
        return self.random.choice((-1, 0, 1, 5, 9, 31, 32, 10 ** 18))

    def number(self):
        draw = self.random.random()
        if draw < 0.8:
            return self.random.randint(-4, 6)
        return self.random.choice((TOP, -TOP, TOP - 3, 10 ** 6, 999999, -10 ** 6))

    def formula(self, depth, names):
        if depth == 0 or self.random.random() < 0.25:
            if names and self.random.random() < 0.75:
                return [1, self.random.choice(names)]
            return [0, self.number()]
        sign = self.random.randint(2, 10)
        told = [sign]
        for part in range(3 if sign == 10 else 2):
            told += self.formula(depth - 1, names)
        return told

    def row(self):
        draw = self.random.random()
        if draw < 0.04:
            return [self.random.randint(-1, 12) for k in range(self.random.randint(0, 8))]
        names = [entry[0] for entry in self.model.inputs + self.model.cells]
        if draw < 0.07:
            names = list(range(0, 32, 3))
        return self.formula(self.random.randint(0, 4), names)

    def making(self):
        kind = self.random.randint(0, 5)
        free = self.random.randint(0, 15)
        if kind == 0 and len(self.model.inputs) < 4:
            stride = self.random.randint(1, 3)
            low = self.random.randint(-5, 2)
            return [0, free, low, low + self.random.randint(0, 12), stride, low + stride * self.random.randint(0, 3)]
        if kind <= 1 and len(self.model.inputs) < 4:
            values = [self.number() for k in range(self.random.randint(1, 6))]
            return [1, free, self.random.randint(0, 3), len(values)] + values
        row = self.row()
        if kind == 2:
            return [3, self.one_of(self.model.cells), len(row)] + row
        if kind == 3:
            return [4, self.random.randint(0, 9), len(row)] + row
        return [2, free, len(row)] + row

    def call(self):
        model = self.model
        if self.random.random() < 0.35:
            return self.making()
        name = self.one_of(model.inputs)
        test = self.one_of(model.tests)
        return self.random.choice((
            [5, self.one_of(model.inputs + model.cells)], [6, test if self.random.random() < 0.3 else 30],
            [7, name, self.random.randint(-3, 3)], [7, name, self.random.randint(-3, 3)], [8, name, self.number()],
            [9, self.random.randint(0, 3)], [10, self.random.randint(0, 3)],
            [11, self.one_of(model.inputs + model.cells)], [12, test], [13],
            [14, self.one_of(model.inputs + model.cells)], [15, test], [16], [17, name, test],
            [18, name, test, self.random.choice((1, -1, 1, -1, 0))], [19, name, self.one_of(model.inputs), test],
            [20, test, self.random.randint(0, 2)], [20, test, self.random.randint(0, 2)], [20, test, 3],
            [21, test], [22], [23], [23]))


class AgainstTheModel(unittest.TestCase):
    def drawn_line(self, seed, how_many):
        """The calls and the model's answers."""
        model = Model()
        drawer = Drawer(seed, model)
        line = []
        for k in range(how_many):
            call = drawer.call()
            line.append((call, model.answer(call)))
        return line

    def assert_line(self, seed, how_many):
        line = self.drawn_line(seed, how_many)
        told = run([call for call, answer in line])
        for k, (call, answer) in enumerate(line):
            self.assertEqual(told[k], answer, (seed, k, call))
        return line

    def test_without_the_calls_that_only_look(self):
        for seed in range(100, 130):
            line = [(call, answer) for call, answer in self.drawn_line(seed, 100) if call[0] <= 10 or call[0] == 22]
            self.assertEqual(run([call for call, answer in line]), [answer for call, answer in line], seed)

    def test_drawn_lines(self):
        seen = {}
        for seed in range(100):
            for call, answer in self.assert_line(seed, 100):
                seen.setdefault(call[0], set()).add(min(answer[0], 0))
        # The lines are worth something only if every call was answered and refused.
        self.assertEqual(sorted(seen), list(range(24)))
        for number, answers in seen.items():
            self.assertIn(0, answers, number)
        self.assertEqual(seen[20], {0, -9, -17, -18})
        self.assertLessEqual({0, -7, -9, -15}, seen[19])
        self.assertEqual(seen[18], {0, -7, -9, -14})


if __name__ == "__main__":
    unittest.main()
