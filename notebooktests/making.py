"""The calls that make, change and drop inputs, cells and tests."""

from notebooktests.formulas import formula_of
from notebooktests.limits import is_name, is_value
from notebooktests.refusals import (
    ALL_IS_WELL, IS_READ, MAY_NOT_READ, NO_SUCH_CELL, NO_SUCH_INPUT, NO_SUCH_TEST, NOT_A_FORMULA,
    NOT_OF_THE_INPUT, NOT_SUCH_A_LIST, OUTSIDE_NAMES, OUTSIDE_VALUES, THERE_ALREADY, TOO_MANY)
from notebooktests.state import Dial, all_names, has_name, is_read, names_before

MOST_INPUTS = 8
MOST_STOPS = 64
MOST_CELLS = 12
MOST_TESTS = 8


def add_slider(notebook, name, low, high, stride, value):
    refusal = new_name_refusal(notebook, name, notebook.inputs, MOST_INPUTS)
    if refusal != ALL_IS_WELL:
        return [refusal]
    if not (is_value(low) and is_value(high) and is_value(value)):
        return [OUTSIDE_VALUES]
    # Counted before the list is made: it might be far too long.
    if stride < 1 or low > high or (high - low) // stride + 1 > MOST_STOPS:
        return [NOT_SUCH_A_LIST]
    stops = list(range(low, high + 1, stride))
    if value not in stops:
        return [NOT_OF_THE_INPUT]
    notebook.inputs[name] = Dial(stops, stops.index(value))
    return [0]


def add_choice(notebook, name, place, stops):
    refusal = new_name_refusal(notebook, name, notebook.inputs, MOST_INPUTS)
    if refusal != ALL_IS_WELL:
        return [refusal]
    if len(stops) < 1 or len(stops) > MOST_STOPS or len(set(stops)) < len(stops):
        return [NOT_SUCH_A_LIST]
    for value in stops:
        if not is_value(value):
            return [OUTSIDE_VALUES]
    if not 0 <= place < len(stops):
        return [NOT_OF_THE_INPUT]
    notebook.inputs[name] = Dial(stops, place)
    return [0]


def new_name_refusal(notebook, name, kept, most):
    # kept is where the new one is to go: the inputs or the cells.
    if not is_name(name):
        return OUTSIDE_NAMES
    if has_name(notebook, name):
        return THERE_ALREADY
    if len(kept) >= most:
        return TOO_MANY
    return ALL_IS_WELL


def add_cell(notebook, name, numbers):
    refusal = new_name_refusal(notebook, name, notebook.cells, MOST_CELLS)
    if refusal != ALL_IS_WELL:
        return [refusal]
    return put_formula(notebook.cells, name, numbers, all_names(notebook), 0)


def change_cell(notebook, name, numbers):
    if name not in notebook.cells:
        return [NO_SUCH_CELL]
    return put_formula(notebook.cells, name, numbers, names_before(notebook, name), 0)


def put_test(notebook, number, numbers):
    if not is_name(number):
        return [OUTSIDE_NAMES]
    is_new = number not in notebook.tests
    if is_new and len(notebook.tests) >= MOST_TESTS:
        return [TOO_MANY]
    # What is remembered of a changed test stays.
    return put_formula(notebook.tests, number, numbers, all_names(notebook), 1 if is_new else 0)


def put_formula(kept, key, numbers, allowed, answer):
    # kept is the cells or the tests, allowed the names that the formula may read.
    formula = formula_of(numbers)
    if formula is None:
        return [NOT_A_FORMULA]
    for name in formula.names:
        if name not in allowed:
            return [MAY_NOT_READ]
    kept[key] = formula
    return [answer]


def drop_name(notebook, name):
    if not has_name(notebook, name):
        return [NO_SUCH_INPUT]
    if is_read(notebook, name):
        return [IS_READ]
    notebook.inputs.pop(name, None)
    notebook.cells.pop(name, None)
    for preset in notebook.presets.values():
        preset.pop(name, None)
    return [0]


def drop_test(notebook, number):
    if number not in notebook.tests:
        return [NO_SUCH_TEST]
    notebook.tests.pop(number)
    notebook.remembered.pop(number, None)
    return [0]
