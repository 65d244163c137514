"""Runs of the machine: its states, one behind the other."""


def first_state(boxes):
    return (0, tuple(boxes), ())


def next_state(roll, state):
    place = state[0]
    boxes = state[1]
    cells = state[2]
    row = roll[place]
    if row[0] == "halt":
        return None
    return (next_place(row, place, boxes), next_boxes(row, boxes, cells), next_cells(row, boxes, cells))


def next_place(row, place, boxes):
    if row[0] == "jump":
        return row[1]
    if row[0] == "when" and boxes[row[1]] > 0:
        return row[2]
    return place + 1


def next_boxes(row, boxes, cells):
    name = row[0]
    if name == "put":
        return with_box(boxes, row[1], row[2])
    if name == "get":
        return with_box(boxes, row[1], cell_value(cells, boxes[row[2]]))
    if name in ("add", "sub", "more"):
        return with_box(boxes, row[1], worked(name, boxes[row[2]], boxes[row[3]]))
    return boxes


def worked(name, one, other):
    if name == "add":
        return one + other
    if name == "sub":
        return one - other
    # A comparison alone would be a truth, and a truth is no whole number.
    return 1 if one > other else 0


def next_cells(row, boxes, cells):
    if row[0] == "set":
        return with_cell(cells, boxes[row[1]], boxes[row[2]])
    return cells


def with_box(boxes, box, value):
    return boxes[:box] + (value,) + boxes[box + 1:]


def cell_value(cells, number):
    return dict(cells).get(number, 0)


def with_cell(cells, number, value):
    below = [cell for cell in cells if cell[0] < number]
    above = [cell for cell in cells if cell[0] > number]
    # Two states are the same just where they are equal, so a cell of 0 may not stand.
    here = [(number, value)] if value != 0 else []
    return tuple(below + here + above)


def run(roll, boxes, most=400):
    states = [first_state(boxes)]
    while len(states) <= most and not ended(roll, states):
        states.append(next_state(roll, states[-1]))
    return states


def told(roll, states):
    numbers = []
    for state in states[:-1]:
        row = roll[state[0]]
        if row[0] == "tell":
            numbers.append(state[1][row[1]])
    return numbers


def ended(roll, states):
    last = states[-1]
    return roll[last[0]][0] == "halt"
