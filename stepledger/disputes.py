"""Disputes: two tellers of unlike states, and a judge who asks few of them."""

from stepledger.errors import NoDispute, NoTime
from stepledger.machine import next_state
from stepledger.rolls import is_within


class Teller:
    def __init__(self, states):
        self.states = tuple(states)
        self.asked = []

    def state_at(self, time):
        if not is_within(time, len(self.states)):
            raise NoTime("there is no state at this time")
        self.asked.append(time)
        return self.states[time]

    def many(self):
        return len(self.states)

    def times_asked(self):
        return list(self.asked)


def judged(roll, one, other):
    if one.many() != other.many() or one.many() < 2:
        raise NoDispute("the tellers do not have as many states, two at least")
    low = 0
    first = both_at(one, other, low)
    if are_unlike(first):
        raise NoDispute("the first states are unlike")
    high = one.many() - 1
    last = both_at(one, other, high)
    if not are_unlike(last):
        raise NoDispute("the last states are alike")
    # What was told at low and at high is kept, since nothing is asked twice.
    alike = first[0]
    unlike = last
    while high != low + 1:
        middle = (low + high) // 2
        both = both_at(one, other, middle)
        if are_unlike(both):
            high = middle
            unlike = both
        else:
            low = middle
            alike = both[0]
    return (low, wrong_ones(roll, alike, unlike))


def both_at(one, other, time):
    return (one.state_at(time), other.state_at(time))


def are_unlike(both):
    return both[0] != both[1]


def wrong_ones(roll, state, both):
    # Behind a halt this is None, which no state is like.
    right = next_state(roll, state)
    return (both[0] != right, both[1] != right)
