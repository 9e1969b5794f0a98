"""The calls that try a test at other settings: sweep, edge, grid, nearest."""

from notebooktests.columns import FAILS, IS_REFUSED, PASSES
from notebooktests.refusals import (
    NO_SUCH_INPUT, NO_SUCH_TEST, NONE_NEAR, NOT_A_DIRECTION, OUTSIDE_VERDICTS, THE_SAME_TWICE, TOO_MANY_SETTINGS)
from notebooktests.state import rested_on
from notebooktests.trials import Trial, verdicts_in

MOST_SETTINGS = 1024
MOST_STEPS = 4


def tell_sweep(notebook, name, number):
    if name not in notebook.inputs:
        return [NO_SUCH_INPUT]
    if number not in notebook.tests:
        return [NO_SUCH_TEST]
    verdicts = swept(notebook, name, number)
    return [len(verdicts)] + verdicts


def swept(notebook, name, number):
    settings = [(place,) for place in range(len(notebook.inputs[name].stops))]
    return verdicts_in(notebook, Trial([name], settings), number)


def tell_edge(notebook, name, number, direction):
    if name not in notebook.inputs:
        return [NO_SUCH_INPUT]
    if number not in notebook.tests:
        return [NO_SUCH_TEST]
    if direction != 1 and direction != -1:
        return [NOT_A_DIRECTION]
    verdicts = swept(notebook, name, number)
    start = notebook.inputs[name].place
    place = start + direction
    while 0 <= place < len(verdicts):
        if verdicts[place] != verdicts[start]:
            return [abs(place - start)]
        place += direction
    return [0]


def tell_grid(notebook, x, y, number):
    if x not in notebook.inputs or y not in notebook.inputs:
        return [NO_SUCH_INPUT]
    if x == y:
        return [THE_SAME_TWICE]
    if number not in notebook.tests:
        return [NO_SUCH_TEST]
    x_places = len(notebook.inputs[x].stops)
    y_places = len(notebook.inputs[y].stops)
    if x_places * y_places > MOST_SETTINGS:
        return [TOO_MANY_SETTINGS]
    settings = [(k // y_places, k % y_places) for k in range(x_places * y_places)]
    verdicts = verdicts_in(notebook, Trial([x, y], settings), number)
    return [verdicts.count(PASSES), verdicts.count(FAILS), verdicts.count(IS_REFUSED)]


def tell_nearest(notebook, number, verdict):
    if number not in notebook.tests:
        return [NO_SUCH_TEST]
    if not FAILS <= verdict <= IS_REFUSED:
        return [OUTSIDE_VERDICTS]
    names = rested_on(notebook, notebook.tests[number])
    for distance in range(MOST_STEPS + 1):
        trial = near_trial(notebook, names, distance)
        if len(trial.settings) > 0:
            verdicts = verdicts_in(notebook, trial, number)
            if verdict in verdicts:
                return told_setting(distance, names, trial.settings[verdicts.index(verdict)])
    return [NONE_NEAR]


def near_trial(notebook, names, distance):
    # Kept, since tests that rest on the same inputs are often asked for one behind another.
    key = (distance, tuple(names))
    if key not in notebook.near_trials:
        dials = [notebook.inputs[name] for name in names]
        notebook.near_trials[key] = Trial(names, settings_at(dials, distance))
    return notebook.near_trials[key]


def settings_at(dials, distance):
    # Each dial's places are tried from the lowest on, so the settings come in the order of their places.
    begun = [((), distance)]
    for dial in dials:
        longer = []
        for places, left in begun:
            lowest = max(0, dial.place - left)
            highest = min(len(dial.stops) - 1, dial.place + left)
            for place in range(lowest, highest + 1):
                longer.append((places + (place,), left - abs(place - dial.place)))
        begun = longer
    return [places for places, left in begun if left == 0]


def told_setting(distance, names, places):
    told = [distance, len(names)]
    for name, place in zip(names, places):
        told.extend((name, place))
    return told
