"""The calls that turn inputs, keep and recall presets, and tell where names stand."""

from notebooktests.refusals import NO_SUCH_CELL, NO_SUCH_INPUT, NO_SUCH_PRESET, NOT_OF_THE_INPUT
from notebooktests.state import value_now
from notebooktests.trials import column_in, trial_of_now

LAST_PRESET = 9


def turn_input(notebook, name, steps):
    if name not in notebook.inputs:
        return [NO_SUCH_INPUT]
    dial = notebook.inputs[name]
    dial.place = max(0, min(dial.place + steps, len(dial.stops) - 1))
    return [dial.place]


def set_input(notebook, name, value):
    if name not in notebook.inputs:
        return [NO_SUCH_INPUT]
    dial = notebook.inputs[name]
    if value not in dial.stops:
        return [NOT_OF_THE_INPUT]
    dial.place = dial.stops.index(value)
    return [dial.place]


def keep_preset(notebook, number):
    if not 0 <= number <= LAST_PRESET:
        return [NO_SUCH_PRESET]
    preset = {}
    for name, dial in notebook.inputs.items():
        preset[name] = value_now(dial)
    notebook.presets[number] = preset
    return [len(preset)]


def recall_preset(notebook, number):
    # Only numbers in range are ever kept, so one look tells both refusals.
    if number not in notebook.presets:
        return [NO_SUCH_PRESET]
    moved = 0
    for name, value in notebook.presets[number].items():
        dial = notebook.inputs[name]
        if value_now(dial) != value:
            dial.place = dial.stops.index(value)
            moved += 1
    return [moved]


def tell_value(notebook, name):
    if name in notebook.inputs:
        return [0, value_now(notebook.inputs[name])]
    if name not in notebook.cells:
        return [NO_SUCH_CELL]
    column = column_in(notebook, trial_of_now(), notebook.cells[name])
    if 0 in column.refusals:
        return [1, column.refusals[0]]
    return [0, column.numbers[0]]
