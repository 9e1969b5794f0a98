"""The interface: a flat list of calls in, a flat list of answers out."""

from notebooktests.looking import (
    set_mark, tell_inline, tell_inputs, tell_news, tell_rests, tell_test_rests, tell_verdict, tell_verdicts)
from notebooktests.making import (
    add_cell, add_choice, add_slider, change_cell, drop_name, drop_test, put_test)
from notebooktests.standing import keep_preset, recall_preset, set_input, tell_value, turn_input
from notebooktests.state import Notebook
from notebooktests.trying import tell_edge, tell_grid, tell_nearest, tell_sweep

SLIDER = 0
CHOICE = 1
CELL = 2
CHANGE = 3
TEST = 4
DROP = 5
DROP_TEST = 6
TURN = 7
SET = 8
KEEP = 9
RECALL = 10
VALUE = 11
VERDICT = 12
VERDICTS = 13
RESTS = 14
TEST_RESTS = 15
INPUTS = 16
SWEEP = 17
EDGE = 18
GRID = 19
NEAREST = 20
INLINE = 21
MARK = 22

# By a call's number: how many whole numbers stand behind it.
HOW_MANY_WHOLES = (5, 2, 1, 1, 1, 1, 1, 2, 2, 1, 1, 1, 1, 0, 1, 1, 0, 2, 3, 3, 2, 1, 0, 0)

# By a call's number: 1 where a row stands behind these, with how many numbers it has before it.
HOW_MANY_ROWS = (0, 1, 1, 1, 1, 0, 0, 0, 0, 0, 0, 0, 0, 0, 0, 0, 0, 0, 0, 0, 0, 0, 0, 0)


def answers(calls):
    notebook = Notebook()
    told = []
    at = 0
    while at < len(calls):
        number = calls[at]
        row_at = at + 1 + HOW_MANY_WHOLES[number]
        wholes = calls[at + 1:row_at]
        row = []
        at = row_at
        if HOW_MANY_ROWS[number] > 0:
            at = row_at + 1 + calls[row_at]
            row = calls[row_at + 1:at]
        answer = answer_of(notebook, number, wholes, row)
        told.append(len(answer))
        told.extend(answer)
    return told


def answer_of(notebook, number, wholes, row):
    if number <= RECALL:
        # These may change what the trials were worked out from.
        notebook.near_trials.clear()
    if number <= DROP_TEST:
        return answer_of_making(notebook, number, wholes, row)
    if number <= VALUE:
        return answer_of_standing(notebook, number, wholes)
    if SWEEP <= number <= NEAREST:
        return answer_of_trying(notebook, number, wholes)
    return answer_of_looking(notebook, number, wholes)


def answer_of_making(notebook, number, wholes, row):
    if number == SLIDER:
        return add_slider(notebook, wholes[0], wholes[1], wholes[2], wholes[3], wholes[4])
    if number == CHOICE:
        return add_choice(notebook, wholes[0], wholes[1], row)
    if number == CELL:
        return add_cell(notebook, wholes[0], row)
    if number == CHANGE:
        return change_cell(notebook, wholes[0], row)
    if number == TEST:
        return put_test(notebook, wholes[0], row)
    if number == DROP:
        return drop_name(notebook, wholes[0])
    return drop_test(notebook, wholes[0])


def answer_of_standing(notebook, number, wholes):
    if number == TURN:
        return turn_input(notebook, wholes[0], wholes[1])
    if number == SET:
        return set_input(notebook, wholes[0], wholes[1])
    if number == KEEP:
        return keep_preset(notebook, wholes[0])
    if number == RECALL:
        return recall_preset(notebook, wholes[0])
    return tell_value(notebook, wholes[0])


def answer_of_trying(notebook, number, wholes):
    if number == SWEEP:
        return tell_sweep(notebook, wholes[0], wholes[1])
    if number == EDGE:
        return tell_edge(notebook, wholes[0], wholes[1], wholes[2])
    if number == GRID:
        return tell_grid(notebook, wholes[0], wholes[1], wholes[2])
    return tell_nearest(notebook, wholes[0], wholes[1])


def answer_of_looking(notebook, number, wholes):
    if number == VERDICT:
        return tell_verdict(notebook, wholes[0])
    if number == VERDICTS:
        return tell_verdicts(notebook)
    if number == RESTS:
        return tell_rests(notebook, wholes[0])
    if number == TEST_RESTS:
        return tell_test_rests(notebook, wholes[0])
    if number == INPUTS:
        return tell_inputs(notebook)
    if number == INLINE:
        return tell_inline(notebook, wholes[0])
    if number == MARK:
        return set_mark(notebook)
    return tell_news(notebook)
