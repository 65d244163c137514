"""A run told as two tables: its steps, and the uses of its cells."""

from stepledger.machine import cell_value


def steps_of(states):
    return tuple([(state[0], state[1]) for state in states])


def uses_of(roll, states):
    uses = []
    for time, state in enumerate(states[:-1]):
        row = roll[state[0]]
        if is_use(row):
            uses.append(use_of(row, time, state))
    # No two uses have one time, so they are sorted by number and time alone.
    return tuple(sorted(uses))


def is_use(row):
    return row[0] in ("get", "set")


def use_of(row, time, state):
    boxes = state[1]
    number = cell_number(row, boxes)
    if row[0] == "get":
        return (number, time, "get", cell_value(state[2], number))
    return (number, time, "set", boxes[row[2]])


def cell_number(row, boxes):
    return boxes[row[2]] if row[0] == "get" else boxes[row[1]]
