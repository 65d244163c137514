"""The whole: a program's text and givens, and tables that tell its run or do not."""

from stepledger.errors import Spent, Unfit
from stepledger.lookers import fault
from stepledger.machine import ended, run, told
from stepledger.making import boxes_of, roll_of
from stepledger.tables import steps_of, uses_of
from stepledger.texts import read


def tables(text, given, most=400):
    made = made_of(text, given)
    states = run(made[0], made[1], most)
    if not ended(made[0], states):
        raise Spent("the run has not ended within the bound")
    return (steps_of(states), uses_of(made[0], states))


def answer(text, given, steps, uses):
    made = made_of(text, given)
    found = fault(made[0], made[1], steps, uses)
    if found is not None:
        raise Unfit(found)
    # Of a state only its place and boxes are asked, and these a row of steps has too.
    return told(made[0], steps)


def claims(text, given, one, other):
    made = made_of(text, given)
    return (does_fit(made, one), does_fit(made, other))


def made_of(text, given):
    program = read(text)
    return (roll_of(program), boxes_of(program, given))


def does_fit(made, both):
    return fault(made[0], made[1], both[0], both[1]) is None
