"""Values and verdicts at settings that are tried together."""

from notebooktests.columns import column_of, measured, same_everywhere, verdicts_of
from notebooktests.state import names_below, value_now


class Trial:
    # A setting here is a tuple of places, one for each of the names, which are inputs'; all other inputs
    # stand where they are. A name's column is worked out when it is first asked for.
    def __init__(self, names, settings):
        self.names = names
        self.settings = settings
        self.columns = {}


def trial_of_now():
    return Trial([], [()])


def column_in(notebook, trial, formula):
    below = names_below(notebook, formula)
    for name, dial in notebook.inputs.items():
        if name in below and name not in trial.columns:
            trial.columns[name] = input_column(dial, name, trial)
    for name, cell in notebook.cells.items():
        if name in below and name not in trial.columns:
            trial.columns[name] = column_of(cell.tree, trial.columns, len(trial.settings))
    return column_of(formula.tree, trial.columns, len(trial.settings))


def input_column(dial, name, trial):
    if name not in trial.names:
        return same_everywhere(value_now(dial), len(trial.settings))
    at = trial.names.index(name)
    return measured([dial.stops[places[at]] for places in trial.settings], {})


def verdicts_in(notebook, trial, number):
    return verdicts_of(column_in(notebook, trial, notebook.tests[number]))


def verdict_now(notebook, number):
    return verdicts_in(notebook, trial_of_now(), number)[0]


def verdicts_now(notebook):
    # One trial for all, so that each cell is worked out once.
    trial = trial_of_now()
    verdicts = {}
    for number in notebook.tests:
        verdicts[number] = verdicts_in(notebook, trial, number)[0]
    return verdicts
