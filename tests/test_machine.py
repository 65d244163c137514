import unittest

from samples import BOXES, COUNTDOWN, FOREVER, GREAT, NOUGHTS, arguments, with_box
from stepledger.machine import ended, first_state, next_state, run, told
from stepledger.rolls import read_roll

CELLS = ((-3, 5), (4, -6), (12, 70))


def countdown_boxes(number):
    return (number,) + (0,) * 7


def kinds(state):
    place, boxes, cells = state
    numbers = [place] + list(boxes) + [number for cell in cells for number in cell]
    return (type(state), type(boxes), type(cells), {type(cell) for cell in cells}, {type(n) for n in numbers})


class States(unittest.TestCase):
    def after(self, row, boxes=BOXES, cells=CELLS, place=1):
        roll = (("halt",),) * place + (row,) + (("halt",),) * 9
        state = (place, boxes, cells)
        answer = next_state(roll, state)
        self.assertEqual(state, (place, boxes, cells))
        self.assertEqual(kinds(answer)[:3], (tuple, tuple, tuple))
        self.assertLessEqual(kinds(answer)[3], {tuple})
        self.assertEqual(kinds(answer)[4], {int})
        return answer

    def assert_box(self, row, box, value, boxes=BOXES):
        for place in (0, 1, 7):
            self.assertEqual(self.after(row, boxes, CELLS, place), (place + 1, with_box(boxes, box, value), CELLS))

    def assert_cells(self, row, cells, behind, boxes=BOXES):
        self.assertEqual(self.after(row, boxes, cells), (2, boxes, behind))

    def test_first_state(self):
        for boxes in (BOXES, NOUGHTS, (GREAT, -GREAT) * 4):
            self.assertEqual(first_state(boxes), (0, boxes, ()))
        self.assertEqual(kinds(first_state(BOXES)), (tuple, tuple, tuple, set(), {int}))

    def test_put(self):
        for box in range(8):
            for number in (0, 1, -1, GREAT, -GREAT, BOXES[box]):
                self.assert_box(("put", box, number), box, number)

    def test_add_sub_and_more_at_all_boxes(self):
        for a in range(8):
            for b in range(8):
                for c in range(8):
                    one, other = BOXES[b], BOXES[c]
                    self.assertEqual(self.after(("add", a, b, c))[1], with_box(BOXES, a, one + other))
                    self.assertEqual(self.after(("sub", a, b, c))[1], with_box(BOXES, a, one - other))
                    self.assertEqual(self.after(("more", a, b, c))[1], with_box(BOXES, a, 1 if b > c else 0))

    def test_add(self):
        self.assert_box(("add", 0, 1, 2), 0, 23)
        self.assert_box(("add", 3, 3, 2), 3, 25)
        self.assert_box(("add", 3, 2, 3), 3, 25)
        self.assert_box(("add", 3, 3, 3), 3, 26)
        self.assert_box(("add", 0, 1, 2), 0, 2 * GREAT, (0, GREAT, GREAT) + (0,) * 5)
        self.assert_box(("add", 0, 1, 2), 0, 0, (5, GREAT, -GREAT) + (0,) * 5)

    def test_sub(self):
        self.assert_box(("sub", 0, 1, 2), 0, -1)
        self.assert_box(("sub", 0, 2, 1), 0, 1)
        self.assert_box(("sub", 3, 3, 1), 3, 2)
        self.assert_box(("sub", 3, 1, 3), 3, -2)
        self.assert_box(("sub", 3, 3, 3), 3, 0)
        self.assert_box(("sub", 0, 1, 2), 0, -2 * GREAT, (0, -GREAT, GREAT) + (0,) * 5)

    def test_more(self):
        for one, other, answer in (
            (1, 0, 1), (0, 1, 0), (0, 0, 0), (-1, -2, 1), (-2, -1, 0), (0, -1, 1), (-1, 0, 0),
            (GREAT, GREAT - 1, 1), (GREAT - 1, GREAT, 0), (GREAT, GREAT, 0), (-GREAT, GREAT, 0),
        ):
            boxes = (7, one, other) + (0,) * 5
            self.assert_box(("more", 0, 1, 2), 0, answer, boxes)
            self.assert_box(("more", 1, 1, 2), 1, answer, boxes)
            self.assert_box(("more", 2, 1, 2), 2, answer, boxes)
        self.assert_box(("more", 1, 1, 1), 1, 0)

    def test_get(self):
        self.assert_box(("get", 0, 2), 0, 70)
        self.assert_box(("get", 2, 2), 2, 70)
        self.assert_box(("get", 0, 3), 0, 0)
        self.assert_box(("get", 3, 3), 3, 0)
        self.assert_box(("get", 5, 1), 5, 5, with_box(BOXES, 1, -3))
        self.assert_box(("get", 5, 1), 5, -6, with_box(BOXES, 1, 4))
        self.assert_box(("get", 5, 1), 5, 0, with_box(BOXES, 1, 5))
        self.assertEqual(self.after(("get", 4, 5), cells=()), (2, with_box(BOXES, 4, 0), ()))

    def test_set_a_new_cell_in_its_place(self):
        self.assert_cells(("set", 0, 1), (), ((10, 11),))
        self.assert_cells(("set", 0, 1), CELLS, ((-3, 5), (4, -6), (10, 11), (12, 70)))
        self.assert_cells(("set", 3, 1), CELLS, CELLS + ((13, 11),))
        self.assert_cells(("set", 3, 3), CELLS, CELLS + ((13, 13),))
        for number, at in ((-GREAT, 0), (-4, 0), (-2, 1), (-1, 1), (0, 1), (3, 1), (5, 2), (11, 2), (13, 3), (GREAT, 3)):
            behind = CELLS[:at] + ((number, -1),) + CELLS[at:]
            self.assert_cells(("set", 6, 7), CELLS, behind, (0,) * 6 + (number, -1))

    def test_set_a_cell_anew_in_its_old_place(self):
        self.assert_cells(("set", 2, 3), CELLS, ((-3, 5), (4, -6), (12, 13)))
        self.assert_cells(("set", 2, 2), CELLS, ((-3, 5), (4, -6), (12, 12)))
        self.assert_cells(("set", 0, 1), CELLS, ((-3, 9), (4, -6), (12, 70)), (-3, 9) + (0,) * 6)
        self.assert_cells(("set", 0, 1), CELLS, ((-3, 5), (4, GREAT), (12, 70)), (4, GREAT) + (0,) * 6)
        self.assert_cells(("set", 0, 1), CELLS, CELLS, (4, -6) + (0,) * 6)

    def test_set_a_cell_to_nought(self):
        self.assert_cells(("set", 0, 1), CELLS, ((4, -6), (12, 70)), (-3, 0) + (1,) * 6)
        self.assert_cells(("set", 0, 1), CELLS, ((-3, 5), (12, 70)), (4, 0) + (1,) * 6)
        self.assert_cells(("set", 0, 1), CELLS, ((-3, 5), (4, -6)), (12, 0) + (1,) * 6)
        self.assert_cells(("set", 0, 1), CELLS, CELLS, (5, 0) + (1,) * 6)
        self.assert_cells(("set", 0, 1), ((5, 1),), (), (5, 0) + (1,) * 6)
        self.assert_cells(("set", 0, 0), ((0, 1),), (), NOUGHTS)

    def test_jump(self):
        for k in (0, 1, 2, 9):
            self.assertEqual(self.after(("jump", k)), (k, BOXES, CELLS))

    def test_when(self):
        for k in (0, 1, 2, 9):
            for value, place in ((1, k), (GREAT, k), (0, 2), (-1, 2), (-GREAT, 2)):
                others = (0 if value > 0 else 1,) * 8
                for box in range(8):
                    boxes = with_box(others, box, value)
                    self.assertEqual(self.after(("when", box, k), boxes), (place, boxes, CELLS))

    def test_tell(self):
        for box in range(8):
            self.assertEqual(self.after(("tell", box)), (2, BOXES, CELLS))

    def test_halt(self):
        self.assertIsNone(next_state((("halt",),), first_state(BOXES)))
        self.assertIsNone(next_state(COUNTDOWN, (4, BOXES, CELLS)))
        self.assertIsNone(next_state((("halt",), ("jump", 0)), (0, BOXES, CELLS)))


class Runs(unittest.TestCase):
    def test_a_run_state_by_state(self):
        roll = read_roll("put 7 -2\nset 7 0\nput 6 5\nset 6 0\nget 1 7\ntell 1\nput 0 0\nset 7 0\nget 1 7\ntell 1\nhalt")
        nine = ((-2, 9),)
        both = ((-2, 9), (5, 9))
        self.assertEqual(run(roll, (9,) + (0,) * 7), [
            (0, (9, 0, 0, 0, 0, 0, 0, 0), ()),
            (1, (9, 0, 0, 0, 0, 0, 0, -2), ()),
            (2, (9, 0, 0, 0, 0, 0, 0, -2), nine),
            (3, (9, 0, 0, 0, 0, 0, 5, -2), nine),
            (4, (9, 0, 0, 0, 0, 0, 5, -2), both),
            (5, (9, 9, 0, 0, 0, 0, 5, -2), both),
            (6, (9, 9, 0, 0, 0, 0, 5, -2), both),
            (7, (0, 9, 0, 0, 0, 0, 5, -2), both),
            (8, (0, 9, 0, 0, 0, 0, 5, -2), ((5, 9),)),
            (9, (0, 0, 0, 0, 0, 0, 5, -2), ((5, 9),)),
            (10, (0, 0, 0, 0, 0, 0, 5, -2), ((5, 9),)),
        ])
        self.assertEqual(told(roll, run(roll, (9,) + (0,) * 7)), [9, 0])

    def test_a_run_with_a_loop(self):
        states = run(COUNTDOWN, countdown_boxes(3))
        self.assertEqual([state[0] for state in states], [0, 1, 2, 3, 1, 2, 3, 1, 2, 3, 4])
        self.assertEqual([state[1][0] for state in states], [3, 3, 3, 2, 2, 2, 1, 1, 1, 0, 0])
        self.assertEqual(told(COUNTDOWN, states), [3, 2, 1])
        self.assertIs(ended(COUNTDOWN, states), True)

    def test_a_halt_at_once(self):
        for most in (0, 1, 2, 400, 2000):
            states = run((("halt",),), BOXES, most)
            self.assertEqual(states, [(0, BOXES, ())])
            self.assertIs(ended((("halt",),), states), True)

    def test_bounds(self):
        for most in (0, 1, 2, 399, 400, 401, 1999, 2000):
            states = run(FOREVER, NOUGHTS, most)
            self.assertIs(type(states), list)
            self.assertEqual(len(states), most + 1)
            self.assertIs(ended(FOREVER, states), False)
            self.assertEqual(run(FOREVER, NOUGHTS, most=most), states)
            self.assertEqual(states, run(FOREVER, NOUGHTS, 2000)[:most + 1])

    def test_the_bound_left_out(self):
        self.assertEqual(run(FOREVER, NOUGHTS), run(FOREVER, NOUGHTS, 400))
        self.assertEqual(len(run(FOREVER, NOUGHTS)), 401)

    def test_ahead_of_the_bound_at_it_and_behind_it(self):
        steps = 10
        whole = run(COUNTDOWN, countdown_boxes(3))
        self.assertEqual(len(whole), steps + 1)
        for most in range(steps + 5):
            states = run(COUNTDOWN, countdown_boxes(3), most)
            self.assertEqual(states, whole[:most + 1])
            self.assertIs(ended(COUNTDOWN, states), most >= steps)

    def test_an_end_just_at_two_thousand(self):
        roll = read_roll("jump 1\n" + "sub 0 0 1\nwhen 0 1\nhalt")
        boxes = (999, 1) + (0,) * 6
        self.assertEqual(len(run(roll, boxes, 2000)), 2000)
        roll = read_roll("jump 1\njump 2\n" + "sub 0 0 1\nwhen 0 2\nhalt")
        states = run(roll, boxes, 2000)
        self.assertEqual(len(states), 2001)
        self.assertIs(ended(roll, states), True)
        self.assertIs(ended(roll, run(roll, boxes, 1999)), False)

    def test_each_state_is_the_next_one(self):
        states = run(FOREVER, NOUGHTS, 50)
        self.assertEqual(states[0], first_state(NOUGHTS))
        for state, behind in zip(states, states[1:]):
            self.assertEqual(next_state(FOREVER, state), behind)

    def test_four_hundred_rows(self):
        roll = tuple(("put", k % 8, k) for k in range(399)) + (("halt",),)
        states = run(roll, NOUGHTS)
        self.assertEqual(len(states), 400)
        self.assertEqual(states[-1], (399, (392, 393, 394, 395, 396, 397, 398, 391), ()))

    def test_numbers_grow_as_great_as_they_need(self):
        roll = (("add", 0, 0, 0), ("jump", 0))
        states = run(roll, (GREAT,) + (0,) * 7, 2000)
        self.assertEqual(states[-1][1][0], GREAT * 2 ** 1000)
        onward = run(roll, states[-1][1], 2000)
        self.assertEqual(onward[-1][1][0], GREAT * 2 ** 2000)

    def test_many_cells_rise_by_number(self):
        roll = (("sub", 0, 0, 1), ("set", 0, 0), ("jump", 0))
        boxes = (300, 1) + (0,) * 6
        cells = run(roll, boxes, 2000)[-1][2]
        self.assertEqual(cells, tuple((n, n) for n in range(300 - 667, 300) if n != 0))


class Told(unittest.TestCase):
    roll = read_roll("tell 0\ntell 7\nhalt\ntell 3\njump 0")

    def test_lists_of_no_run(self):
        states = [(3, BOXES, CELLS), (1, BOXES, ()), (4, BOXES, ()), (2, NOUGHTS, ()), (0, BOXES, ()), (0, NOUGHTS, ())]
        self.assertEqual(told(self.roll, states), [13, 17, 10])
        self.assertIs(ended(self.roll, states), False)
        self.assertIs(ended(self.roll, states + [(2, BOXES, CELLS)]), True)
        self.assertEqual(told(self.roll, states + [(2, BOXES, CELLS)]), [13, 17, 10, 0])

    def test_the_last_state_tells_nothing(self):
        self.assertEqual(told(self.roll, [(0, BOXES, ()), (0, BOXES, ())]), [10])
        self.assertEqual(told(self.roll, [(0, BOXES, ()), (1, BOXES, ())]), [10])
        self.assertEqual(told(self.roll, run(self.roll, BOXES, 1)), [10])
        self.assertEqual(told(self.roll, run(self.roll, BOXES, 2)), [10, 17])

    def test_one_state(self):
        for place in range(5):
            self.assertEqual(told(self.roll, [(place, BOXES, CELLS)]), [])
            self.assertIs(ended(self.roll, [(place, BOXES, CELLS)]), place == 2)

    def test_a_halt_amid_is_no_end(self):
        self.assertIs(ended(self.roll, [(2, BOXES, ()), (3, BOXES, ())]), False)

    def test_ordinary_and_wrong_values_are_told_as_they_stand(self):
        states = [(0, (n,) + (0,) * 7, ()) for n in (0, 0, -1, GREAT, -GREAT)] + [(2, NOUGHTS, ())]
        self.assertEqual(told(self.roll, states), [0, 0, -1, GREAT, -GREAT])
        self.assertIs(type(told(self.roll, states)), list)

    def test_two_thousand_and_one_states(self):
        states = [(0, (n,) + (0,) * 7, ()) for n in range(2001)]
        self.assertEqual(told(self.roll, states), list(range(2000)))
        self.assertIs(ended(self.roll, states), False)

    def test_no_box_told_is_a_truth(self):
        roll = read_roll("more 0 1 2\ntell 0\nmore 0 2 1\ntell 0\nhalt")
        numbers = told(roll, run(roll, (5, 1) + (0,) * 6))
        self.assertEqual(numbers, [1, 0])
        self.assertEqual([type(number) for number in numbers], [int, int])


class Kept(unittest.TestCase):
    def test_a_list_changed_by_the_asker_is_told_anew_as_it_was(self):
        boxes = countdown_boxes(3)
        first = run(COUNTDOWN, boxes)
        whole = list(first)
        numbers = told(COUNTDOWN, first)
        first.clear()
        numbers.append(99)
        self.assertEqual(run(COUNTDOWN, boxes), whole)
        self.assertEqual(told(COUNTDOWN, whole), [3, 2, 1])
        second = run(COUNTDOWN, boxes)
        second.reverse()
        self.assertEqual(run(COUNTDOWN, boxes), whole)

    def test_states_handed_in_are_as_they_were(self):
        states = run(COUNTDOWN, countdown_boxes(3))
        copy = list(states)
        told(COUNTDOWN, states)
        ended(COUNTDOWN, states)
        next_state(COUNTDOWN, states[0])
        self.assertEqual(states, copy)

    def test_what_was_told_is_as_it_was_behind_changes_of_what_was_handed_in(self):
        states = run(COUNTDOWN, countdown_boxes(3))
        numbers = told(COUNTDOWN, states)
        states.clear()
        self.assertEqual(numbers, [3, 2, 1])


class Interface(unittest.TestCase):
    def test_names_and_arguments(self):
        for function, told_arguments in (
            (first_state, "(boxes)"),
            (next_state, "(roll, state)"),
            (run, "(roll, boxes, most=400)"),
            (told, "(roll, states)"),
            (ended, "(roll, states)"),
        ):
            self.assertEqual(arguments(function), told_arguments)

    def test_arguments_by_name(self):
        state = first_state(boxes=BOXES)
        self.assertEqual(next_state(roll=FOREVER, state=state), (1, with_box(BOXES, 1, 1), ()))
        self.assertEqual(run(roll=FOREVER, boxes=BOXES, most=0), [state])
        self.assertEqual(told(roll=FOREVER, states=[state]), [])
        self.assertIs(ended(roll=FOREVER, states=[state]), False)


if __name__ == "__main__":
    unittest.main()
