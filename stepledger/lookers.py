"""Lookers: whether two neighbouring rows fit, and the first place of two tables that does not."""

from stepledger.machine import next_boxes, next_place, with_box
from stepledger.rolls import is_within
from stepledger.tables import cell_number, is_use


def step_fits(roll, row, behind):
    place = row[0]
    boxes = row[1]
    roll_row = row_at(roll, place)
    if roll_row is None or roll_row[0] == "halt":
        return False
    return behind == (next_place(roll_row, place, boxes), boxes_behind(roll_row, boxes, behind[1]))


def row_at(roll, place):
    # A place below 0 would be counted from the roll's end.
    return roll[place] if is_within(place, len(roll)) else None


def boxes_behind(roll_row, boxes, told_boxes):
    # Steps do not tell the cells, so what a get reads is left to the uses.
    if roll_row[0] == "get":
        return with_box(boxes, roll_row[1], told_boxes[roll_row[1]])
    return next_boxes(roll_row, boxes, ())


def use_fits(ahead, row):
    if ahead is not None and row[:2] <= ahead[:2]:
        return False
    if row[2] != "get":
        return True
    same = ahead is not None and ahead[0] == row[0]
    return row[3] == (ahead[3] if same else 0)


def use_matches(roll, steps, row):
    time = row[1]
    if not is_within(time, len(steps) - 1):
        return False
    boxes = steps[time][1]
    roll_row = row_at(roll, steps[time][0])
    if roll_row is None or not is_use(roll_row) or row[2] != roll_row[0]:
        return False
    if row[0] != cell_number(roll_row, boxes):
        return False
    if roll_row[0] == "get":
        return row[3] == steps[time + 1][1][roll_row[1]]
    return row[3] == boxes[roll_row[2]]


def first_unfit_step(roll, steps):
    for time in range(len(steps) - 1):
        if not step_fits(roll, steps[time], steps[time + 1]):
            return time
    return None


def first_unfit_use(ahead, uses):
    before = ahead
    for number, row in enumerate(uses):
        if not use_fits(before, row):
            return number
        before = row
    return None


def first_unmatched_use(roll, steps, uses):
    for number, row in enumerate(uses):
        if not use_matches(roll, steps, row):
            return number
    return None


def fault(roll, boxes, steps, uses):
    found = fault_of_steps(roll, boxes, steps)
    # Uses are only looked at beside steps that fit, so that every place is a row.
    return found if found is not None else fault_of_uses(roll, steps, uses)


def fault_of_steps(roll, boxes, steps):
    if len(steps) == 0 or steps[0] != (0, boxes):
        return ("begin", 0)
    unfit = first_unfit_step(roll, steps)
    if unfit is not None:
        return ("step", unfit)
    last = len(steps) - 1
    if row_at(roll, steps[last][0]) != ("halt",):
        return ("end", last)
    return None


def fault_of_uses(roll, steps, uses):
    unfit = first_unfit_use(None, uses)
    if unfit is not None:
        return ("use", unfit)
    unmatched = first_unmatched_use(roll, steps, uses)
    if unmatched is not None:
        return ("match", unmatched)
    due = [row for row in steps[:-1] if is_use(roll[row[0]])]
    if len(uses) != len(due):
        return ("count", len(uses))
    return None
