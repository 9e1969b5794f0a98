"""What a notebook holds, and the outcomes of its names."""

from notebooktests.formulas import NOT_REFUSED, work_out


class Dial:
    # An input: Python has a use of its own for that word.
    def __init__(self, stops, place):
        self.stops = stops
        self.place = place


class Notebook:
    # Every dict keeps the order in which things were made, and what is changed keeps its place there.
    def __init__(self):
        self.inputs = {}
        self.cells = {}
        self.tests = {}
        self.presets = {}
        self.remembered = {}


def has_name(notebook, name):
    return name in notebook.inputs or name in notebook.cells


def all_names(notebook):
    return list(notebook.inputs) + list(notebook.cells)


def names_before(notebook, cell):
    # All inputs stand before a cell, those made later too.
    names = list(notebook.inputs)
    for other in notebook.cells:
        if other == cell:
            break
        names.append(other)
    return names


def is_read(notebook, name):
    for formula in list(notebook.cells.values()) + list(notebook.tests.values()):
        if name in formula.names:
            return True
    return False


def value_now(dial):
    return dial.stops[dial.place]


def all_outcomes(notebook):
    # Each cell once and in order, since cells that read each other often would take too long one by one.
    outcomes = {}
    for name, dial in notebook.inputs.items():
        outcomes[name] = (NOT_REFUSED, value_now(dial))
    for name, formula in notebook.cells.items():
        outcomes[name] = work_out(formula.tree, outcomes)
    return outcomes
