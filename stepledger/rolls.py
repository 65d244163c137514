"""Rolls: the machine's rows, read from a text and shown as one."""

from stepledger.errors import BadRow, NoRoll

FIGURES = "0123456789"
MOST_FIGURES = 60
BOXES = 8

# What the numbers behind a row's name are: a box and a number are judged by
# themselves, a row only against the whole roll.
FORMS = {
    "put": ("box", "number"),
    "add": ("box", "box", "box"),
    "sub": ("box", "box", "box"),
    "more": ("box", "box", "box"),
    "get": ("box", "box"),
    "set": ("box", "box"),
    "jump": ("row",),
    "when": ("box", "row"),
    "tell": ("box",),
    "halt": (),
}


def is_number(word):
    figures = word[1:] if word.startswith("-") else word
    if len(figures) < 1 or len(figures) > MOST_FIGURES:
        return False
    if figures.startswith("0"):
        return word == "0"
    return all([figure in FIGURES for figure in figures])


def read_roll(text):
    rows = []
    for number, line in enumerate(text.split("\n"), start=1):
        row = read_row(line)
        if row is None:
            raise BadRow(number)
        rows.append(row)
    # Only behind all rows, since a bad row is told ahead of a bad roll.
    refuse_no_roll(rows)
    return tuple(rows)


def read_row(line):
    words = line.split(" ")
    form = FORMS.get(words[0])
    if form is None or len(words) != len(form) + 1:
        return None
    row = [words[0]]
    for kind, word in zip(form, words[1:]):
        if not is_number(word):
            return None
        number = int(word)
        if kind == "box" and not is_within(number, BOXES):
            return None
        row.append(number)
    return tuple(row)


def refuse_no_roll(rows):
    if rows[-1][0] not in ("halt", "jump"):
        raise NoRoll("the last row is neither a halt nor a jump")
    for row in rows:
        for kind, number in zip(FORMS[row[0]], row[1:]):
            if kind == "row" and not is_within(number, len(rows)):
                raise NoRoll(f"there is no row {number} to go on to")


def is_within(number, many):
    return number >= 0 and number < many


def shown_roll(roll):
    return "\n".join([shown_row(row) for row in roll])


def shown_row(row):
    return " ".join([str(word) for word in row])
