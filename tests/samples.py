"""Rolls, boxes and small tools that more than one test uses."""

import inspect
import random

from stepledger.machine import run
from stepledger.rolls import read_roll
from stepledger.tables import steps_of, uses_of

BOXES = (10, 11, 12, 13, 14, 15, 16, 17)
NOUGHTS = (0,) * 8
GREAT = int("9" * 60)

# Box 0 counted down to nought, and told on the way.
COUNTDOWN = read_roll("put 1 1\ntell 0\nsub 0 0 1\nwhen 0 1\nhalt")
FOREVER = read_roll("put 1 1\nadd 0 0 1\ntell 0\njump 1")

# Three cells: -2 is set, read, set to 0 and read; 5 is read unset and then set; 12 is only set.
THREE_CELLS = read_roll(
    "put 7 -2\nput 6 5\nput 5 12\nset 7 0\nget 1 6\nset 6 0\nget 2 7\nset 5 6\nput 0 0\nset 7 0\nget 3 7\ntell 2\nhalt"
)
THREE_BOXES = (9, 8, 7, 6, 5, 4, 3, 2)
THREE_USES = (
    (-2, 3, "set", 9),
    (-2, 6, "get", 9),
    (-2, 9, "set", 0),
    (-2, 10, "get", 0),
    (5, 4, "get", 0),
    (5, 5, "set", 9),
    (12, 7, "set", 5),
)

# Box 0 goes down by box 1; each value is put into its own cell and read again, the one below it read unset.
DOWNWARD = read_roll("set 0 0\nget 3 0\nsub 0 0 1\nget 4 0\njump 0")
DOWNWARD_BOXES = (60, 1) + (0,) * 6

# From these boxes the run ends, and has just 2001 states.
LONG = read_roll("set 0 1\nget 3 0\nsub 0 0 1\nwhen 0 0\nhalt")
LONG_BOXES = (500, 1) + (0,) * 6

# Every row but the halt is gone through, and the halt ends it.
ALL_ROWS = read_roll(
    "put 1 3\nput 2 1\nadd 3 1 0\nmore 4 1 2\nset 1 3\nget 5 1\ntell 5\nsub 1 1 2\nwhen 1 2\njump 10\nhalt"
)

ENDING = ((THREE_CELLS, THREE_BOXES), (ALL_ROWS, NOUGHTS), (COUNTDOWN, (3,) + (0,) * 7), ((("halt",),), BOXES))
ENDLESS = ((DOWNWARD, DOWNWARD_BOXES), (FOREVER, NOUGHTS))


def with_box(boxes, box, value):
    changed = list(boxes)
    changed[box] = value
    return tuple(changed)


def tables_of(roll, boxes, most=400):
    states = run(roll, boxes, most)
    return steps_of(states), uses_of(roll, states)


def arguments(function):
    return str(inspect.signature(function))


def chance(seed):
    """A source of numbers that is the same in each run of the tests."""
    return random.Random(seed)


def with_row(table, at, row):
    return table[:at] + (row,) + table[at + 1:]


def without_row(table, at):
    return table[:at] + table[at + 1:]


def with_value(row, at, value):
    return row[:at] + (value,) + row[at + 1:]
