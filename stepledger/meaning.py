"""The meaning of a program: the numbers that it tells, and its number of steps."""

from stepledger.errors import BadGiven, Spent
from stepledger.machine import worked
from stepledger.sums import parts_of


class Walk:
    def __init__(self, named, most):
        self.named = named
        self.cells = {}
        self.numbers = []
        self.steps = 0
        self.most = most

    def spend(self, steps):
        self.steps = self.steps + steps
        # At once, since a while may go on without end.
        if self.steps > self.most:
            raise Spent("there are more steps than the bound")

    def value_of(self, words):
        parts = [self.value_of(part) for part in parts_of(words)]
        if len(parts) == 2:
            self.spend(1)
            return worked(words[0], parts[0], parts[1])
        if len(parts) == 1:
            self.spend(2)
            return self.cells.get(parts[0], 0)
        if isinstance(words[0], int):
            self.spend(1)
            return words[0]
        self.spend(2)
        return self.named.get(words[0], 0)

    def is_above(self, words):
        value = self.value_of(words)
        self.spend(1)
        return value > 0

    def go_through(self, deeds):
        for deed in deeds:
            self.do_deed(deed)

    def do_deed(self, deed):
        if deed[0] == "when":
            self.choose(deed)
        elif deed[0] == "while":
            self.repeat(deed)
        elif deed[0] == "put":
            number = self.value_of(deed[1])
            self.cells[number] = self.value_of(deed[2])
            self.spend(2)
        elif deed[0] == "set":
            self.named[deed[1]] = self.value_of(deed[2])
            self.spend(2)
        else:
            self.numbers.append(self.value_of(deed[1]))
            self.spend(1)

    def choose(self, deed):
        if self.is_above(deed[1]):
            self.go_through(deed[2])
        else:
            self.go_through(deed[3])
            self.spend(1)

    def repeat(self, deed):
        while self.is_above(deed[1]):
            self.go_through(deed[2])
            self.spend(1)
        self.spend(1)


def meaning(program, given, most=400):
    refuse_bad_given(program, given)
    walk = Walk(dict(zip(program[0], given)), most)
    walk.spend(2 * len(given))
    walk.go_through(program[1])
    return (walk.numbers, walk.steps)


def refuse_bad_given(program, given):
    if len(given) != len(program[0]):
        raise BadGiven("the givens are not as many as the names taken")
