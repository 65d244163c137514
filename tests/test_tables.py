import unittest

from samples import (
    ALL_ROWS, BOXES, COUNTDOWN, DOWNWARD, DOWNWARD_BOXES, ENDING, ENDLESS, FOREVER, GREAT, LONG, LONG_BOXES, NOUGHTS,
    THREE_BOXES, THREE_CELLS, THREE_USES, arguments,
)
from stepledger.machine import run
from stepledger.rolls import read_roll
from stepledger.tables import steps_of, uses_of


def plain_uses(roll, states):
    """The uses, with the cells kept from the boxes alone, number by number."""
    cells = {}
    by_number = {}
    for time, (place, boxes, _) in enumerate(states[:-1]):
        word, *boxes_used = roll[place]
        if word == "set":
            number, value = boxes[boxes_used[0]], boxes[boxes_used[1]]
            cells[number] = value
        elif word == "get":
            number = boxes[boxes_used[1]]
            value = cells.get(number, 0)
        else:
            continue
        by_number.setdefault(number, []).append((number, time, word, value))
    return tuple(row for number in sorted(by_number) for row in by_number[number])


class Steps(unittest.TestCase):
    def test_a_run_that_ends(self):
        self.assertEqual(steps_of(run(COUNTDOWN, (2,) + (0,) * 7)), (
            (0, (2, 0, 0, 0, 0, 0, 0, 0)),
            (1, (2, 1, 0, 0, 0, 0, 0, 0)),
            (2, (2, 1, 0, 0, 0, 0, 0, 0)),
            (3, (1, 1, 0, 0, 0, 0, 0, 0)),
            (1, (1, 1, 0, 0, 0, 0, 0, 0)),
            (2, (1, 1, 0, 0, 0, 0, 0, 0)),
            (3, (0, 1, 0, 0, 0, 0, 0, 0)),
            (4, (0, 1, 0, 0, 0, 0, 0, 0)),
        ))

    def test_a_run_that_has_not_ended(self):
        self.assertEqual(steps_of(run(FOREVER, NOUGHTS, 3)), (
            (0, NOUGHTS), (1, (0, 1) + (0,) * 6), (2, (1, 1) + (0,) * 6), (3, (1, 1) + (0,) * 6),
        ))

    def test_one_state_alone(self):
        for place in (0, 4):
            self.assertEqual(steps_of([(place, BOXES, ((-1, 5), (3, 4)))]), ((place, BOXES),))

    def test_a_part_of_a_run(self):
        states = run(THREE_CELLS, THREE_BOXES)
        whole = steps_of(states)
        for begin in range(len(states)):
            for end in range(begin + 1, len(states) + 1):
                self.assertEqual(steps_of(states[begin:end]), whole[begin:end])

    def test_a_list_of_no_run(self):
        states = [(3, BOXES, ()), (3, BOXES, ()), (0, NOUGHTS, ((2, 2),)), (4, (GREAT, -GREAT) * 4, ())]
        self.assertEqual(steps_of(states), ((3, BOXES), (3, BOXES), (0, NOUGHTS), (4, (GREAT, -GREAT) * 4)))

    def test_kinds(self):
        for roll, boxes in ENDING + ENDLESS:
            steps = steps_of(run(roll, boxes))
            self.assertIs(type(steps), tuple)
            for row in steps:
                self.assertEqual([type(part) for part in row], [int, tuple])
                self.assertIs(type(row), tuple)

    def test_two_thousand_and_one_states(self):
        states = run(DOWNWARD, DOWNWARD_BOXES, 2000)
        steps = steps_of(states)
        self.assertEqual(len(steps), 2001)
        self.assertEqual(steps, tuple((place, boxes) for place, boxes, _ in states))


class Uses(unittest.TestCase):
    def test_gets_and_sets_of_several_cells(self):
        self.assertEqual(uses_of(THREE_CELLS, run(THREE_CELLS, THREE_BOXES)), THREE_USES)

    def test_a_loop_that_comes_to_lesser_numbers(self):
        self.assertEqual(uses_of(ALL_ROWS, run(ALL_ROWS, NOUGHTS)), (
            (1, 18, "set", 1), (1, 19, "get", 1), (2, 11, "set", 2), (2, 12, "get", 2), (3, 4, "set", 3),
            (3, 5, "get", 3),
        ))

    def test_numbers_rise_as_numbers_not_as_texts(self):
        numbers = (10, 9, -10, 100, -9, 0, 2, GREAT, -GREAT)
        rows = [row for n in numbers for row in (("put", 0, n), ("set", 0, 0))]
        roll = tuple(rows) + (("halt",),)
        uses = uses_of(roll, run(roll, BOXES))
        self.assertEqual([row[0] for row in uses], sorted(numbers))
        self.assertEqual(uses[0], (-GREAT, 17, "set", -GREAT))

    def test_times_rise_as_numbers_whatever_word_and_value(self):
        roll = read_roll("set 0 1\nget 2 0\nsub 1 1 3\njump 0")
        states = run(roll, (7, 5, 0, 1) + (0,) * 4, 60)
        uses = uses_of(roll, states)
        self.assertEqual([row[1] for row in uses], [t for t in range(60) if t % 4 < 2])
        self.assertEqual([row[3] for row in uses], [5 - t // 4 for t in range(60) if t % 4 < 2])
        self.assertEqual([row[2] for row in uses], ["set", "get"] * 15)

    def test_a_cell_never_set_and_one_set_to_nought(self):
        roll = read_roll("get 1 0\nset 2 3\nget 1 2\nset 2 4\nget 1 2\nhalt")
        boxes = (-5, 9, 6, 0, 1, 0, 0, 0)
        self.assertEqual(uses_of(roll, run(roll, boxes)), (
            (-5, 0, "get", 0), (6, 1, "set", 0), (6, 2, "get", 0), (6, 3, "set", 1), (6, 4, "get", 1),
        ))

    def test_a_get_into_the_box_that_tells_the_cell(self):
        roll = read_roll("set 0 1\nget 0 0\nget 0 0\nset 2 2\nhalt")
        self.assertEqual(uses_of(roll, run(roll, (3, 8, 4) + (0,) * 5)), (
            (3, 0, "set", 8), (3, 1, "get", 8), (4, 3, "set", 4), (8, 2, "get", 0),
        ))

    def test_the_last_state_tells_no_use(self):
        for row in (("get", 1, 0), ("set", 0, 1)):
            roll = (row, ("jump", 0))
            self.assertEqual(uses_of(roll, run(roll, BOXES, 0)), ())
            self.assertEqual(len(uses_of(roll, run(roll, BOXES, 1))), 1)
            self.assertEqual(len(uses_of(roll, run(roll, BOXES, 2))), 1)
            self.assertEqual(len(uses_of(roll, run(roll, BOXES, 3))), 2)

    def test_runs_cut_off_at_each_bound(self):
        for roll, boxes in ENDING + ENDLESS:
            whole = uses_of(roll, run(roll, boxes, 60))
            for most in range(60):
                states = run(roll, boxes, most)
                self.assertEqual(uses_of(roll, states), tuple(row for row in whole if row[1] < len(states) - 1))

    def test_no_uses(self):
        for roll, boxes in ((COUNTDOWN, (3,) + (0,) * 7), (FOREVER, NOUGHTS), ((("halt",),), BOXES)):
            self.assertEqual(uses_of(roll, run(roll, boxes)), ())

    def test_the_uses_are_those_told_by_the_boxes_alone(self):
        for roll, boxes in ENDING + ENDLESS:
            states = run(roll, boxes)
            self.assertEqual(uses_of(roll, states), plain_uses(roll, states))

    def test_two_thousand_and_one_states(self):
        for roll, boxes, many in ((DOWNWARD, DOWNWARD_BOXES, 1200), (LONG, LONG_BOXES, 1000)):
            states = run(roll, boxes, 2000)
            uses = uses_of(roll, states)
            self.assertEqual((len(states), len(uses)), (2001, many))
            self.assertEqual(uses, plain_uses(roll, states))

    def test_values_as_great_as_they_need(self):
        roll = read_roll("add 0 0 0\nset 0 0\nget 1 0\njump 0")
        states = run(roll, (GREAT,) + (0,) * 7, 2000)
        great = GREAT * 2 ** 500
        self.assertEqual(uses_of(roll, states)[-2:], ((great, 1997, "set", great), (great, 1998, "get", great)))

    def test_kinds(self):
        for roll, boxes in ENDING + ENDLESS:
            uses = uses_of(roll, run(roll, boxes))
            self.assertIs(type(uses), tuple)
            for row in uses:
                self.assertIs(type(row), tuple)
                self.assertEqual([type(part) for part in row], [int, int, str, int])


class Kept(unittest.TestCase):
    def test_what_is_handed_in_and_what_is_told(self):
        states = run(THREE_CELLS, THREE_BOXES)
        copy = list(states)
        steps = steps_of(states)
        uses = uses_of(THREE_CELLS, states)
        self.assertEqual(states, copy)
        states.clear()
        self.assertEqual(steps, steps_of(copy))
        self.assertEqual(uses, THREE_USES)


class Interface(unittest.TestCase):
    def test_names_and_arguments(self):
        self.assertEqual(arguments(steps_of), "(states)")
        self.assertEqual(arguments(uses_of), "(roll, states)")
        states = run(THREE_CELLS, THREE_BOXES)
        self.assertEqual(steps_of(states=states), steps_of(states))
        self.assertEqual(uses_of(roll=THREE_CELLS, states=states), THREE_USES)


if __name__ == "__main__":
    unittest.main()
