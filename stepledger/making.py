"""The roll that a program is made into, and the boxes that it begins with."""

from stepledger.meaning import refuse_bad_given
from stepledger.rolls import BOXES
from stepledger.sums import parts_of
from stepledger.texts import names_of

# No sum is worked into this box, so that the number of a name's cell may stand in it.
NAME_BOX = 7


def boxes_of(program, given):
    refuse_bad_given(program, given)
    return tuple(given) + (0,) * (BOXES - len(given))


def roll_of(program):
    cells = name_cells(program)
    rows = []
    for box, name in enumerate(program[0]):
        rows.extend(rows_to_name(name, box, cells))
    rows.extend(rows_of_deeds(program[1], len(rows), cells))
    return tuple(rows) + (("halt",),)


def name_cells(program):
    # Names have the odd cells and a program's cells the even ones, so that none is both.
    cells = {}
    for number, name in enumerate(names_of(program)):
        cells[name] = 2 * number + 1
    return cells


def rows_to_name(name, box, cells):
    return [("put", NAME_BOX, cells[name]), ("set", NAME_BOX, box)]


def rows_of_sum(words, box, cells):
    rows = []
    parts = parts_of(words)
    for beside, part in enumerate(parts):
        rows.extend(rows_of_sum(part, box + beside, cells))
    if len(parts) == 2:
        return rows + [(words[0], box, box, box + 1)]
    if len(parts) == 1:
        return rows + [double_row(box), ("get", box, box)]
    if isinstance(words[0], int):
        return [("put", box, words[0])]
    return [("put", NAME_BOX, cells[words[0]]), ("get", box, NAME_BOX)]


def double_row(box):
    return ("add", box, box, box)


def rows_of_deeds(deeds, begin, cells):
    rows = []
    for deed in deeds:
        rows.extend(rows_of_deed(deed, begin + len(rows), cells))
    return rows


def rows_of_deed(deed, begin, cells):
    if deed[0] == "when":
        return rows_of_when(deed, begin, cells)
    if deed[0] == "while":
        return rows_of_while(deed, begin, cells)
    if deed[0] == "put":
        number = rows_of_sum(deed[1], 0, cells) + [double_row(0)]
        return number + rows_of_sum(deed[2], 1, cells) + [("set", 0, 1)]
    if deed[0] == "set":
        return rows_of_sum(deed[2], 0, cells) + rows_to_name(deed[1], 0, cells)
    return rows_of_sum(deed[1], 0, cells) + [("tell", 0)]


def rows_of_when(deed, begin, cells):
    asked = rows_of_sum(deed[1], 0, cells)
    second_begin = begin + len(asked) + 1
    second = rows_of_deeds(deed[3], second_begin, cells)
    first_begin = second_begin + len(second) + 1
    first = rows_of_deeds(deed[2], first_begin, cells)
    behind = first_begin + len(first)
    return asked + [("when", 0, first_begin)] + second + [("jump", behind)] + first


def rows_of_while(deed, begin, cells):
    asked = rows_of_sum(deed[1], 0, cells)
    inner_begin = begin + len(asked) + 2
    inner = rows_of_deeds(deed[2], inner_begin, cells)
    behind = inner_begin + len(inner) + 1
    return asked + [("when", 0, inner_begin), ("jump", behind)] + inner + [("jump", begin)]
