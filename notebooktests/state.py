"""What a notebook holds, and who reads whom in it."""


class Dial:
    # An input: Python has a use of its own for that word.
    def __init__(self, stops, place):
        self.stops = stops
        self.place = place


class Notebook:
    # Every dict keeps the order in which things were made, and what is changed keeps its place there.
    def __init__(self):
        self.inputs = {}
        self.cells = {}
        self.tests = {}
        self.presets = {}
        self.remembered = {}
        # What was worked out near the setting, to be thrown away before anything changes.
        self.near_trials = {}


def has_name(notebook, name):
    return name in notebook.inputs or name in notebook.cells


def all_names(notebook):
    return list(notebook.inputs) + list(notebook.cells)


def names_before(notebook, cell):
    # All inputs stand before a cell, those made later too.
    names = list(notebook.inputs)
    for other in notebook.cells:
        if other == cell:
            break
        names.append(other)
    return names


def is_read(notebook, name):
    for formula in list(notebook.cells.values()) + list(notebook.tests.values()):
        if name in formula.names:
            return True
    return False


def names_below(notebook, formula):
    # What the formula reads, what the cells among that read, and so on. Once through the cells from
    # the last one is enough, since each reads only those before it.
    below = dict(formula.names)
    for name in reversed(list(notebook.cells)):
        if name in below:
            below.update(notebook.cells[name].names)
    return below


def rested_on(notebook, formula):
    below = names_below(notebook, formula)
    return [name for name in notebook.inputs if name in below]


def value_now(dial):
    return dial.stops[dial.place]
