"""Programs that more than one test uses, and what the document says of them told once more in another way."""

import re

from stepledger.rolls import is_number

WORDS = "take set put tell when else while end add sub more cell".split()
BINARY = ("add", "sub", "more")

# Sums of depth six and seven, leaning to the right (which goes deeper) and to the left (which does not).
RIGHT_SIX = "add 1 sub 2 more 3 add 4 sub 5 6"
RIGHT_SEVEN = "add 1 sub 2 more 3 add 4 sub 5 more 6 7"
RIGHT_FIVE = "add 1 sub 2 more 3 add 4 5"
LEFT_LONG = "add sub more add sub more add 1 2 3 4 5 6 7 8"

# Every kind of row, of sum and of block, one within the other.
EVERY_ROW = """take n step
set i n
while i
put i add i cell sub i step
when more cell i 9
tell cell i
else
while 0
end
tell sub 0 i
end
set i sub i step
end
tell -7"""
EVERY_PROGRAM = (
    ("n", "step"),
    (
        ("set", "i", ("n",)),
        (
            "while", ("i",),
            (
                ("put", ("i",), ("add", "i", "cell", "sub", "i", "step")),
                (
                    "when", ("more", "cell", "i", 9),
                    (("tell", ("cell", "i")),),
                    (("while", (0,), ()), ("tell", ("sub", 0, "i"))),
                ),
                ("set", "i", ("sub", "i", "step")),
            ),
        ),
        ("tell", (-7,)),
    ),
)
# From 0 up to 9 in i, told; the square of n by adding; a sum over cells written first.
COUNT = "while sub 10 i\ntell i\nset i add i 1\nend"
SQUARE = "take n\nset left n\nwhile left\nset all add all n\nset left sub left 1\nend\ntell all"
CELLS = "put 3 30\nput -3 cell 3\nput cell 3 7\ntell cell 30\ntell cell -3\ntell cell 3\ntell cell 4"
FOREVER = "while 1\nend"
PLAIN_TEXTS = (EVERY_ROW, COUNT, SQUARE, CELLS, "", "tell 5", "take a\ntell a", "while 0\nend", "when 1\nelse\nend")
# A right number of givens for each of them.
PLAIN_GIVENS = ((4, 1), (), (5,), (), (), (), (8,), (), ())


def sum_of_depth(words, most, source, names):
    """A sum of at most so many words and such a depth, as a list."""
    kind = source.randrange(6)
    if words >= 3 and kind < 3:
        first = sum_of_depth(source.randrange(1, words - 1), most, source, names)
        if most > 1:
            return [source.choice(BINARY)] + first + sum_of_depth(words - 1 - len(first), most - 1, source, names)
        return first
    if words >= 2 and kind == 3:
        return ["cell"] + sum_of_depth(words - 1, most, source, names)
    return [source.choice(names)] if kind == 4 else [source.randrange(-3, 7)]


def some_sum(source, most=6):
    return tuple(sum_of_depth(source.choice((1, 3, 9)), most, source, ("a", "b", "cells", "zzzzzzzz")))


def some_deed(source, blocks):
    kind = source.randrange(7 if blocks else 4)
    if kind < 2:
        return ("set", source.choice(("a", "b", "other")), some_sum(source))
    if kind == 2:
        return ("put", some_sum(source), some_sum(source, 5))
    if kind == 3:
        return ("tell", some_sum(source))
    if kind == 4:
        return ("while", some_sum(source), some_deeds(source, blocks - 1))
    return ("when", some_sum(source), some_deeds(source, blocks - 1), some_deeds(source, blocks - 1))


def some_deeds(source, blocks):
    return tuple(some_deed(source, blocks) for _ in range(source.randrange(4)))


def some_program(source):
    names = source.sample(("a", "b", "cells", "unused", "one", "six"), source.randrange(7))
    return (tuple(names), some_deeds(source, 3))


def some_given(source, program):
    return tuple(source.randrange(-4, 9) for _ in program[0])


def is_plain_name(word):
    return re.fullmatch("[a-z]{1,8}", word) is not None and word not in WORDS


def behind_sum(words, at):
    """The place behind the sum that begins there and its depth; IndexError where a word lacks."""
    if words[at] in BINARY:
        middle, first = behind_sum(words, at + 1)
        end, second = behind_sum(words, middle)
        return end, max(first, second + 1)
    if words[at] == "cell":
        return behind_sum(words, at + 1)
    if not is_plain_name(words[at]) and not is_number(words[at]):
        raise IndexError
    return at + 1, 1


class PlainReader:
    """Rows read by going down into each block, in the place of a pile of blocks."""

    def __init__(self, text):
        self.lines = text.split("\n")
        self.at = 0

    def row(self):
        while self.at < len(self.lines) and self.lines[self.at] == "":
            self.at += 1
        return self.lines[self.at].split(" ") if self.at < len(self.lines) else None

    def bad(self):
        raise ValueError(self.at + 1)

    def sums(self, words, begin, many):
        sums = []
        for deeper in range(many):
            try:
                end, depth = behind_sum(words, begin)
            except IndexError:
                self.bad()
            if depth + deeper > 6:
                self.bad()
            sums.append(tuple(int(word) if is_number(word) else word for word in words[begin:end]))
            begin = end
        if begin != len(words) or len(words) > 60:
            self.bad()
        return sums

    def program(self):
        taken = ()
        words = self.row()
        if words and words[0] == "take":
            taken = tuple(words[1:])
            if not all(map(is_plain_name, taken)) or len(set(taken)) != len(taken) or len(taken) not in range(1, 7):
                self.bad()
            self.at += 1
        deeds = self.deeds(0)
        if self.row() is not None:
            self.bad()
        return (taken, deeds)

    def deeds(self, within):
        """Deeds up to an else, an end or the end of the text, which is left to be read."""
        deeds = []
        while self.row() is not None and self.row() not in (["else"], ["end"]):
            deeds.append(self.deed(self.row(), within))
        return tuple(deeds)

    def deed(self, words, within):
        if words[0] == "set":
            if len(words) < 2 or not is_plain_name(words[1]):
                self.bad()
            found = ("set", words[1], *self.sums(words, 2, 1))
        elif words[0] in ("tell", "put", "when", "while"):
            found = (words[0], *self.sums(words, 1, 2 if words[0] == "put" else 1))
        else:
            self.bad()
        if words[0] in ("when", "while") and within == 12:
            self.bad()
        self.at += 1
        if words[0] == "when":
            found += (self.deeds(within + 1),)
            self.closing("else")
        if words[0] in ("when", "while"):
            found += (self.deeds(within + 1),)
            self.closing("end")
        return found

    def closing(self, word):
        if self.row() != [word]:
            self.bad()
        self.at += 1


def plain_read(text):
    """The program, or the number of the row that breaks the rules."""
    try:
        return PlainReader(text).program()
    except ValueError as error:
        return error.args[0]


def plain_sum(words, names, cells):
    """The value and the steps of a sum, worked from its last word on."""
    pile = []
    steps = 0
    for word in words[::-1]:
        steps += 1
        if word in BINARY:
            one, other = pile.pop(), pile.pop()
            pile.append({"add": one + other, "sub": one - other, "more": int(one > other)}[word])
        elif word == "cell":
            steps += 1
            pile.append(cells.get(pile.pop(), 0))
        elif isinstance(word, str):
            steps += 1
            pile.append(names.get(word, 0))
        else:
            pile.append(word)
    return pile.pop(), steps


def plain_meaning(program, given, most):
    """The numbers told and the steps, or None where there are more than the bound."""
    names, cells, numbers = dict(zip(program[0], given)), {}, []
    steps = 2 * len(given)
    due = list(program[1][::-1])
    while due and steps <= most:
        deed = due.pop()
        if isinstance(deed, int):
            steps += deed
            continue
        value, spent = plain_sum(deed[2] if deed[0] == "set" else deed[1], names, cells)
        steps += spent + 1
        if deed[0] == "set":
            names[deed[1]] = value
            steps += 1
        elif deed[0] == "put":
            cells[value], spent = plain_sum(deed[2], names, cells)
            steps += spent + 1
        elif deed[0] == "tell":
            numbers.append(value)
        elif deed[0] == "when":
            due.extend(deed[2][::-1] if value > 0 else (1, *deed[3][::-1]))
        elif value > 0:
            due.extend((deed, 1, *deed[2][::-1]))
        else:
            steps += 1
    return (numbers, steps) if steps <= most else None


class PlainMaker:
    """Rows made with marks in the place of row numbers, which are known only behind all rows."""

    def __init__(self, program):
        self.rows = []
        self.marks = {}
        self.names = list(program[0])
        # The order of the names matters alone, so all of them are looked up ahead of the first row.
        self.look_at(program[1])
        for box, name in enumerate(program[0]):
            self.rows += [("put", 7, self.cell(name)), ("set", 7, box)]
        self.deeds(program[1])
        self.rows.append(("halt",))

    def look_at(self, things):
        for thing in things:
            if isinstance(thing, tuple):
                self.look_at(thing)
            elif isinstance(thing, str) and thing not in WORDS and thing not in self.names:
                self.names.append(thing)

    def cell(self, name):
        return 2 * self.names.index(name) + 1

    def mark(self, name):
        self.marks[name] = len(self.rows)

    def sum(self, words, box):
        """The words that are left behind the sum."""
        word, *left = words
        if word in BINARY:
            left = self.sum(self.sum(left, box), box + 1)
            self.rows.append((word, box, box, box + 1))
        elif word == "cell":
            left = self.sum(left, box)
            self.rows += [("add", box, box, box), ("get", box, box)]
        elif isinstance(word, str):
            self.rows += [("put", 7, self.cell(word)), ("get", box, 7)]
        else:
            self.rows.append(("put", box, word))
        return left

    def deeds(self, deeds):
        for deed in deeds:
            self.deed(deed, ("A", len(self.rows)), ("B", len(self.rows)), ("C", len(self.rows)))

    def deed(self, deed, a, b, c):
        self.mark(c)
        self.sum(deed[2] if deed[0] == "set" else deed[1], 0)
        if deed[0] == "set":
            self.rows += [("put", 7, self.cell(deed[1])), ("set", 7, 0)]
        elif deed[0] == "put":
            self.rows.append(("add", 0, 0, 0))
            self.sum(deed[2], 1)
            self.rows.append(("set", 0, 1))
        elif deed[0] == "tell":
            self.rows.append(("tell", 0))
        else:
            self.rows.append(("when", 0, a))
            if deed[0] == "when":
                self.deeds(deed[3])
            self.rows.append(("jump", b))
            self.mark(a)
            self.deeds(deed[2])
            if deed[0] == "while":
                self.rows.append(("jump", c))
            self.mark(b)

    def roll(self):
        return tuple(tuple(self.marks.get(word, word) for word in row) for row in self.rows)


def plain_roll(program):
    return PlainMaker(program).roll()
