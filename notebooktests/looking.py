"""The calls that tell verdicts, what rests on which inputs, formulas without cells, and what is new since the mark."""

from notebooktests.formulas import inlined
from notebooktests.refusals import NO_SUCH_CELL, NO_SUCH_TEST, TOO_LONG
from notebooktests.state import has_name, names_below, rested_on, value_now
from notebooktests.trials import verdict_now, verdicts_now

MOST_INLINED = 200
NONE_REMEMBERED = 3


def tell_verdict(notebook, number):
    if number not in notebook.tests:
        return [NO_SUCH_TEST]
    return [verdict_now(notebook, number)]


def tell_verdicts(notebook):
    told = [len(notebook.tests)]
    for number, verdict in verdicts_now(notebook).items():
        told.extend((number, verdict))
    return told


def tell_rests(notebook, name):
    if not has_name(notebook, name):
        return [NO_SUCH_CELL]
    if name in notebook.inputs:
        return [1, name]
    return counted(rested_on(notebook, notebook.cells[name]))


def tell_test_rests(notebook, number):
    if number not in notebook.tests:
        return [NO_SUCH_TEST]
    return counted(rested_on(notebook, notebook.tests[number]))


def counted(numbers):
    return [len(numbers)] + numbers


def tell_inputs(notebook):
    told = [len(notebook.inputs)]
    for name, dial in notebook.inputs.items():
        told.extend((name, value_now(dial), dial.place, len(dial.stops)))
    return told


def tell_inline(notebook, number):
    if number not in notebook.tests:
        return [NO_SUCH_TEST]
    formula = notebook.tests[number]
    below = names_below(notebook, formula)
    inlined_cells = {}
    for name, cell in notebook.cells.items():
        if name in below:
            numbers = inlined(cell, inlined_cells)
            # Not only at the end: from cell to cell the lists may become twenty times as long.
            if len(numbers) > MOST_INLINED:
                return [TOO_LONG]
            inlined_cells[name] = numbers
    numbers = inlined(formula, inlined_cells)
    if len(numbers) > MOST_INLINED:
        return [TOO_LONG]
    return counted(numbers)


def set_mark(notebook):
    notebook.remembered = verdicts_now(notebook)
    return [len(notebook.tests)]


def tell_news(notebook):
    told = []
    how_many = 0
    for number, verdict in verdicts_now(notebook).items():
        before = notebook.remembered.get(number, NONE_REMEMBERED)
        if verdict != before:
            how_many += 1
            told.extend((number, before, verdict))
    return [how_many] + told
