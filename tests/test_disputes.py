import unittest

from samples import (
    ALL_ROWS, BOXES, DOWNWARD, DOWNWARD_BOXES, ENDING, ENDLESS, FOREVER, GREAT, LONG, LONG_BOXES, NOUGHTS,
    THREE_BOXES, THREE_CELLS, arguments, chance, with_box,
)
from stepledger.disputes import Teller, judged
from stepledger.errors import NoDispute, NoTime
from stepledger.machine import next_state, run
from stepledger.rolls import read_roll

STATES = run(THREE_CELLS, THREE_BOXES)
OTHER_STATE = (0, NOUGHTS, ((7, 7),))


def other_box(state):
    return (state[0], with_box(state[1], 4, state[1][4] + 1000), state[2])


def lying_from(states, time):
    """The states with a box that is another from a time on."""
    return states[:time] + [other_box(state) for state in states[time:]]


def lying_at(states, times):
    return [other_box(state) if time in times else state for time, state in enumerate(states)]


class Tellers(unittest.TestCase):
    def assert_no_time(self, teller, time):
        asked = teller.times_asked()
        with self.assertRaises(NoTime):
            teller.state_at(time)
        self.assertEqual(teller.times_asked(), asked)

    def test_each_time(self):
        teller = Teller(STATES)
        self.assertEqual(teller.many(), 13)
        self.assertEqual(teller.times_asked(), [])
        for time, state in enumerate(STATES):
            self.assertEqual(teller.state_at(time), state)
            self.assertEqual(teller.times_asked(), list(range(time + 1)))
            self.assertEqual(teller.many(), 13)

    def test_a_time_asked_twice_and_any_order(self):
        teller = Teller(STATES)
        for time in (5, 5, 12, 0, 5, 12):
            self.assertEqual(teller.state_at(time), STATES[time])
        self.assertEqual(teller.times_asked(), [5, 5, 12, 0, 5, 12])

    def test_other_times(self):
        teller = Teller(STATES)
        for time in (-GREAT, -14, -13, -12, -1, 13, 14, 26, GREAT):
            self.assert_no_time(teller, time)
        teller.state_at(12)
        self.assert_no_time(teller, 13)
        self.assert_no_time(teller, -1)
        self.assertEqual(teller.times_asked(), [12])

    def test_no_states(self):
        teller = Teller([])
        self.assertEqual(teller.many(), 0)
        for time in (-2, -1, 0, 1, GREAT, -GREAT):
            self.assert_no_time(teller, time)
        self.assertEqual(teller.times_asked(), [])

    def test_one_state(self):
        teller = Teller(STATES[3:4])
        self.assertEqual((teller.many(), teller.state_at(0), teller.times_asked()), (1, STATES[3], [0]))
        self.assert_no_time(teller, 1)
        self.assert_no_time(teller, -1)

    def test_the_list_handed_in_is_kept_apart(self):
        states = list(STATES)
        teller = Teller(states)
        self.assertEqual(states, STATES)
        states[0] = OTHER_STATE
        states.pop()
        self.assertEqual((teller.many(), teller.state_at(0), teller.state_at(12)), (13, STATES[0], STATES[12]))
        states.clear()
        self.assertEqual((teller.many(), teller.state_at(5)), (13, STATES[5]))
        empty = []
        teller = Teller(empty)
        empty.append(OTHER_STATE)
        self.assertEqual(teller.many(), 0)
        self.assert_no_time(teller, 0)

    def test_the_times_told_are_the_asker_s_own(self):
        teller = Teller(STATES)
        first = teller.times_asked()
        teller.state_at(3)
        second = teller.times_asked()
        first.append(9)
        second.clear()
        self.assertEqual(teller.times_asked(), [3])
        third = teller.times_asked()
        teller.state_at(4)
        self.assertEqual(third, [3])
        self.assertEqual(teller.times_asked(), [3, 4])

    def test_each_teller_notes_its_own(self):
        one = Teller(STATES)
        other = Teller(STATES)
        one.state_at(1)
        other.state_at(2)
        self.assertEqual((one.times_asked(), other.times_asked()), ([1], [2]))

    def test_two_thousand_and_one_states(self):
        states = run(LONG, LONG_BOXES, 2000)
        teller = Teller(states)
        self.assertEqual([teller.state_at(time) for time in range(2001)], states)
        self.assertEqual((teller.many(), teller.times_asked()), (2001, list(range(2001))))
        self.assert_no_time(teller, 2001)

    def test_kinds(self):
        teller = Teller(STATES)
        self.assertIs(type(teller.state_at(1)), tuple)
        self.assertIs(type(teller.many()), int)
        self.assertIs(type(teller.times_asked()), list)
        self.assertIs(type(teller.times_asked()[0]), int)


class Judged(unittest.TestCase):
    def assert_judged(self, roll, one, other, answer, asked=None):
        """Judged both ways round, with few asked and nothing asked twice."""
        low, wrong = answer
        for first, second, told in ((one, other, (low, wrong)), (other, one, (low, wrong[::-1]))):
            tellers = (Teller(first), Teller(second))
            found = judged(roll, tellers[0], tellers[1])
            self.assertEqual(found, told)
            self.assertEqual([type(found), type(found[0]), type(found[1])], [tuple, int, tuple])
            self.assertEqual([type(truth) for truth in found[1]], [bool, bool])
            times = tellers[0].times_asked()
            self.assertEqual(tellers[1].times_asked(), times)
            self.assertEqual(times[:2], [0, len(one) - 1])
            self.assertEqual(len(set(times)), len(times))
            self.assertLessEqual(len(times), (len(one) - 1).bit_length() + 2)
            if asked is not None:
                self.assertEqual(times, asked)

    def assert_no_dispute(self, one, other, asked, roll=THREE_CELLS):
        tellers = (Teller(one), Teller(other))
        with self.assertRaises(NoDispute):
            judged(roll, tellers[0], tellers[1])
        self.assertEqual((tellers[0].times_asked(), tellers[1].times_asked()), (asked, asked))

    def test_not_as_many_states(self):
        for one, other in ((13, 12), (12, 13), (2, 3), (1, 2), (2, 1), (0, 1), (0, 2), (13, 0), (1, 13)):
            self.assert_no_dispute(STATES[:one], STATES[:other], [])
            self.assert_no_dispute(lying_from(STATES, 1)[:one], STATES[:other], [])

    def test_one_state_and_none(self):
        self.assert_no_dispute([], [], [])
        self.assert_no_dispute(STATES[:1], STATES[:1], [])
        self.assert_no_dispute(STATES[:1], [OTHER_STATE], [])

    def test_first_states_unlike(self):
        for many in (2, 3, 13):
            self.assert_no_dispute(STATES[:many], lying_from(STATES, 0)[:many], [0])
            self.assert_no_dispute(STATES[:many], lying_at(STATES, (0,))[:many], [0])

    def test_last_states_alike(self):
        for many in (2, 3, 13):
            self.assert_no_dispute(STATES[:many], STATES[:many], [0, many - 1])
        self.assert_no_dispute(STATES, lying_at(STATES, range(1, 12)), [0, 12])

    def test_one_teller_on_both_sides(self):
        teller = Teller(STATES)
        with self.assertRaises(NoDispute):
            judged(THREE_CELLS, teller, teller)
        self.assertEqual(teller.times_asked(), [0, 0, 12, 12])

    def test_two_states(self):
        self.assert_judged(THREE_CELLS, STATES[:2], lying_from(STATES, 1)[:2], (0, (False, True)), [0, 1])
        two = [STATES[0], OTHER_STATE]
        self.assert_judged(THREE_CELLS, two, lying_from(STATES, 1)[:2], (0, (True, True)), [0, 1])

    def test_the_times_asked(self):
        states = STATES[:9]
        for time, asked in (
            (1, [0, 8, 4, 2, 1]), (2, [0, 8, 4, 2, 1]), (3, [0, 8, 4, 2, 3]), (4, [0, 8, 4, 2, 3]),
            (5, [0, 8, 4, 6, 5]), (6, [0, 8, 4, 6, 5]), (7, [0, 8, 4, 6, 7]), (8, [0, 8, 4, 6, 7]),
        ):
            self.assert_judged(THREE_CELLS, states, lying_from(states, time), (time - 1, (False, True)), asked)

    def test_the_times_asked_where_the_middle_is_no_whole_number(self):
        for many, time, asked in (
            (3, 1, [0, 2, 1]), (3, 2, [0, 2, 1]), (4, 1, [0, 3, 1]), (4, 2, [0, 3, 1, 2]), (4, 3, [0, 3, 1, 2]),
            (6, 1, [0, 5, 2, 1]), (6, 3, [0, 5, 2, 3]), (6, 4, [0, 5, 2, 3, 4]), (13, 12, [0, 12, 6, 9, 10, 11]),
        ):
            states = STATES[:many]
            self.assert_judged(THREE_CELLS, states, lying_from(states, time), (time - 1, (False, True)), asked)

    def test_unlike_from_each_step_on(self):
        for roll, boxes in ENDING + ENDLESS:
            states = run(roll, boxes, 40)
            for time in range(1, len(states)):
                lie = lying_from(states, time)
                self.assert_judged(roll, states, lie, (time - 1, (False, True)))

    def test_one_who_goes_on_rightly_from_a_wrong_state(self):
        states = run(FOREVER, NOUGHTS, 50)
        for time in range(1, 51):
            lie = states[:time] + [other_box(states[time])]
            while len(lie) < 51:
                lie.append(next_state(FOREVER, lie[-1]))
            self.assert_judged(FOREVER, states, lie, (time - 1, (False, True)))

    def test_unlike_in_one_part_of_the_state_alone(self):
        place, boxes, cells = STATES[12]
        for last in (
            (11, boxes, cells), (place, with_box(boxes, 0, 1), cells), (place, with_box(boxes, 7, 1), cells),
            (place, boxes, ()), (place, boxes, cells[:-1]), (place, boxes, cells + ((GREAT, 1),)),
            (place, boxes, ((5, 9), (12, 6))),
        ):
            self.assert_judged(THREE_CELLS, STATES, STATES[:12] + [last], (11, (False, True)))

    def test_both_wrong(self):
        for time in range(1, 13):
            one = lying_from(STATES, time)
            other = STATES[:time] + [OTHER_STATE] * (13 - time)
            self.assert_judged(THREE_CELLS, one, other, (time - 1, (True, True)))

    def test_both_lie_alike_and_one_then_goes_on_rightly(self):
        # Only the step behind what both told is judged, not whether that was the run's.
        states = [STATES[0]] + run(FOREVER, BOXES, 6)
        self.assert_judged(FOREVER, states, lying_from(states, 6), (5, (False, True)))

    def test_alike_again_on_the_way(self):
        states = STATES[:9]
        lie = lying_at(states, (2, 7, 8))
        self.assert_judged(THREE_CELLS, states, lie, (6, (False, True)), [0, 8, 4, 6, 7])
        lie = lying_at(states, (1, 4, 8))
        self.assert_judged(THREE_CELLS, states, lie, (3, (False, True)), [0, 8, 4, 2, 3])
        # The one that told otherwise ahead is right at the step that is found.
        self.assert_judged(
            THREE_CELLS, lying_at(states, (1,)), lying_at(states, (8,)), (7, (False, True)), [0, 8, 4, 6, 7],
        )

    def test_behind_a_halt(self):
        halted = STATES + [STATES[12]]
        other = STATES + [OTHER_STATE]
        self.assert_judged(THREE_CELLS, halted, other, (12, (True, True)))
        self.assert_judged((("halt",),), [(0, BOXES, ()), (0, BOXES, ())], [(0, BOXES, ()), (0, NOUGHTS, ())],
                           (0, (True, True)), [0, 1])
        long = STATES + [STATES[12]] * 8
        for time in range(13, 21):
            self.assert_judged(THREE_CELLS, long, lying_from(long, time), (time - 1, (True, True)))
        for time in range(1, 13):
            self.assert_judged(THREE_CELLS, long, lying_from(long, time), (time - 1, (False, True)))

    def test_behind_a_jump_to_itself(self):
        roll = (("jump", 0),)
        states = run(roll, BOXES, 5)
        for time in range(1, 6):
            self.assert_judged(roll, states, lying_from(states, time), (time - 1, (False, True)))

    def test_a_set_to_nought_and_a_get(self):
        roll = read_roll("set 0 1\nset 0 2\nget 3 0\nhalt")
        states = run(roll, (4, 6, 0, 9) + (0,) * 4)
        kept = states[:2] + [(2, states[2][1], ((4, 6),)), (3, with_box(states[3][1], 3, 6), ((4, 6),))]
        self.assert_judged(roll, states, kept, (1, (False, True)))
        noughts = states[:2] + [(2, states[2][1], ((4, 0),)), (3, states[3][1], ((4, 0),))]
        self.assert_judged(roll, states, noughts, (1, (False, True)))

    def test_two_thousand_and_one_states(self):
        for roll, boxes in ((LONG, LONG_BOXES), (DOWNWARD, DOWNWARD_BOXES)):
            states = run(roll, boxes, 2000)
            for time in (1, 2, 999, 1000, 1001, 1024, 1999, 2000):
                self.assert_judged(roll, states, lying_from(states, time), (time - 1, (False, True)))
        states = run(LONG, LONG_BOXES, 2000)
        one, other = Teller(states), Teller(lying_from(states, 2000))
        judged(LONG, one, other)
        self.assertEqual(one.times_asked(), [0, 2000, 1000, 1500, 1750, 1875, 1937, 1968, 1984, 1992, 1996, 1998, 1999])

    def test_whoever_tells_a_run_is_never_wrong(self):
        numbers = chance(11)
        for roll, boxes in (ENDING[:3] + ENDLESS) * 60:
            states = run(roll, boxes, numbers.randrange(2, 40))
            last = len(states) - 1
            lie = [numbers.choice((state, state, other_box(state), (0,) + state[1:])) for state in states]
            lie = [states[0]] + lie[1:last] + [other_box(states[last])]
            one, other = Teller(states), Teller(lie)
            low, wrong = judged(roll, one, other)
            self.assertEqual(wrong, (False, True))
            self.assertEqual(lie[low], states[low])
            self.assertNotEqual(lie[low + 1], states[low + 1])
            self.assertEqual(one.times_asked(), other.times_asked())
            self.assertLessEqual(len(one.times_asked()), last.bit_length() + 2)

    def test_at_least_one_is_wrong(self):
        numbers = chance(13)
        for _ in range(200):
            states = run(ALL_ROWS, NOUGHTS)
            both = []
            for _ in range(2):
                lie = [numbers.choice((state, other_box(state), OTHER_STATE)) for state in states]
                both.append([states[0]] + lie[1:])
            if both[0][-1] == both[1][-1]:
                self.assert_no_dispute(both[0], both[1], [0, 24], ALL_ROWS)
                continue
            low, wrong = judged(ALL_ROWS, Teller(both[0]), Teller(both[1]))
            self.assertIn(True, wrong)
            right = next_state(ALL_ROWS, both[0][low])
            self.assertEqual(wrong, tuple(lie[low + 1] != right for lie in both))


class Kept(unittest.TestCase):
    def test_what_was_asked_ahead_stays_noted(self):
        one, other = Teller(STATES[:3]), Teller(lying_from(STATES, 1)[:3])
        one.state_at(2)
        other.state_at(1)
        self.assertEqual(judged(THREE_CELLS, one, other), (0, (False, True)))
        self.assertEqual(one.times_asked(), [2, 0, 2, 1])
        self.assertEqual(other.times_asked(), [1, 0, 2, 1])

    def test_judged_again(self):
        one, other = Teller(STATES[:3]), Teller(lying_from(STATES, 1)[:3])
        first = judged(THREE_CELLS, one, other)
        self.assertEqual(judged(THREE_CELLS, one, other), first)
        self.assertEqual(one.times_asked(), [0, 2, 1, 0, 2, 1])
        self.assertEqual(other.times_asked(), [0, 2, 1, 0, 2, 1])

    def test_changed_lists_do_not_matter(self):
        states, lie = list(STATES), lying_from(STATES, 7)
        one, other = Teller(states), Teller(lie)
        states.clear()
        lie.reverse()
        self.assertEqual(judged(THREE_CELLS, one, other), (6, (False, True)))


class Interface(unittest.TestCase):
    def test_names_and_arguments(self):
        for function, told_arguments in (
            (Teller, "(states)"),
            (Teller.state_at, "(self, time)"),
            (Teller.many, "(self)"),
            (Teller.times_asked, "(self)"),
            (judged, "(roll, one, other)"),
        ):
            self.assertEqual(arguments(function), told_arguments)

    def test_arguments_by_name(self):
        one, other = Teller(states=STATES), Teller(states=lying_from(STATES, 3))
        self.assertEqual(one.state_at(time=2), STATES[2])
        self.assertEqual(judged(roll=THREE_CELLS, one=one, other=other), (2, (False, True)))


if __name__ == "__main__":
    unittest.main()
