import itertools
import unittest

from samples import (
    BOXES, COUNTDOWN, DOWNWARD, DOWNWARD_BOXES, ENDING, ENDLESS, FOREVER, GREAT, LONG, LONG_BOXES, NOUGHTS,
    THREE_BOXES, THREE_CELLS, arguments, chance, tables_of, with_box, with_row, with_value, without_row,
)
from stepledger.lookers import fault, step_fits, use_fits, use_matches
from stepledger.machine import ended, run
from stepledger.rolls import read_roll

FAR = (-GREAT, -401, -12, -2, -1, 11, 12, 401, GREAT)
WORDS = ("get", "set", "", "Get", "gets", "halt", "put", "tell", "no such word")


class StepFits(unittest.TestCase):
    def assert_fits(self, roll, row, behind, answer=True):
        self.assertIs(step_fits(roll, row, behind), answer, (row, behind))

    def assert_only(self, roll_row, place, boxes=BOXES, behind=BOXES, free=None):
        """That behind the row at 3 stand just this place and these boxes, but for a box that is free."""
        roll = (("halt",),) * 3 + (roll_row,) + (("halt",),) * 7
        self.assert_fits(roll, (3, boxes), (place, behind))
        for other in FAR + tuple(range(11)):
            self.assert_fits(roll, (3, boxes), (other, behind), other == place)
        for box in range(8):
            for change in (-GREAT, -1, 1, 2, GREAT):
                changed = with_box(behind, box, behind[box] + change)
                self.assert_fits(roll, (3, boxes), (place, changed), box == free)

    def test_put(self):
        for box in range(8):
            for number in (0, 7, -7, GREAT):
                self.assert_only(("put", box, number), 4, behind=with_box(BOXES, box, number))

    def test_add_and_sub(self):
        for a, b, c in ((0, 1, 2), (7, 7, 7), (3, 3, 5), (3, 5, 3), (2, 4, 4)):
            self.assert_only(("add", a, b, c), 4, behind=with_box(BOXES, a, BOXES[b] + BOXES[c]))
            self.assert_only(("sub", a, b, c), 4, behind=with_box(BOXES, a, BOXES[b] - BOXES[c]))

    def test_more(self):
        for a, b, c in ((0, 1, 2), (0, 2, 1), (5, 5, 4), (4, 5, 4), (6, 6, 6)):
            self.assert_only(("more", a, b, c), 4, behind=with_box(BOXES, a, 1 if b > c else 0))

    def test_get(self):
        for a, b in ((0, 1), (1, 0), (7, 7), (0, 0)):
            self.assert_only(("get", a, b), 4, free=a)
            for value in (0, -5, GREAT):
                self.assert_only(("get", a, b), 4, behind=with_box(BOXES, a, value), free=a)

    def test_set(self):
        for a, b in ((0, 1), (1, 0), (7, 7)):
            self.assert_only(("set", a, b), 4)

    def test_jump(self):
        for k in (0, 3, 4, 10):
            self.assert_only(("jump", k), k)

    def test_when(self):
        for k in (0, 3, 4, 10):
            for value, place in ((1, k), (GREAT, k), (0, 4), (-1, 4), (-GREAT, 4)):
                boxes = with_box((0 if value > 0 else 1,) * 8, 6, value)
                self.assert_only(("when", 6, k), place, boxes, boxes)

    def test_tell(self):
        for box in range(8):
            self.assert_only(("tell", box), 4)

    def test_halt(self):
        roll = (("tell", 0), ("halt",), ("jump", 0))
        for place in (-1, 0, 1, 2, 3):
            self.assert_fits(roll, (1, BOXES), (place, BOXES), False)
        self.assert_fits((("halt",),), (0, BOXES), (0, BOXES), False)
        self.assert_fits((("halt",),), (0, BOXES), (1, BOXES), False)

    def test_a_place_that_is_no_row(self):
        # Counted from the end, or from the begin again, these places would be rows that fit.
        for many in (1, 2, 10):
            roll = (("jump", 0),) * many
            for place in (-GREAT, -many - 1, -many, -1, many, many + 1, 2 * many, GREAT):
                for behind in (0, place, place + 1):
                    self.assert_fits(roll, (place, BOXES), (behind, BOXES), False)
        for place in (-2, 2):
            self.assert_fits((("tell", 0), ("halt",)), (place, BOXES), (place + 1, BOXES), False)

    def test_all_rows_of_runs(self):
        for roll, boxes in ENDING + ENDLESS:
            steps = tables_of(roll, boxes)[0]
            for row, behind in zip(steps, steps[1:]):
                self.assert_fits(roll, row, behind)

    def test_great_values(self):
        great = GREAT * 2 ** 2000
        roll = read_roll("add 0 0 0\njump 0")
        self.assert_fits(roll, (0, (great,) * 8), (1, (2 * great,) + (great,) * 7))
        self.assert_fits(roll, (0, (great,) * 8), (1, (2 * great + 1,) + (great,) * 7), False)


class UseFits(unittest.TestCase):
    def assert_fits(self, ahead, row, answer=True):
        self.assertIs(use_fits(ahead, row), answer, (ahead, row))

    def test_a_greater_number(self):
        for number, greater in ((3, 4), (-4, -3), (-1, 0), (9, 10), (-GREAT, GREAT)):
            for time in (-GREAT, -1, 0, 4, 5, 6, GREAT):
                for word in WORDS:
                    self.assert_fits((number, 5, word, 7), (greater, time, "set", 8))
                    self.assert_fits((number, 5, word, 7), (greater, time, "get", 0))
                    self.assert_fits((number, 5, word, 7), (greater, time, "get", 7), False)
                    self.assert_fits((number, 5, word, 7), (greater, time, "get", -1), False)

    def test_a_lesser_number(self):
        for number, lesser in ((4, 3), (-3, -4), (0, -1), (10, 9), (GREAT, -GREAT)):
            for time in (-GREAT, -1, 0, 4, 5, 6, GREAT):
                for word in WORDS:
                    for value in (0, 7, 8):
                        self.assert_fits((number, 5, "set", 7), (lesser, time, word, value), False)

    def test_the_same_number(self):
        for time, greater in ((5, 6), (9, 10), (-1, 0), (-2, -1), (0, GREAT), (-GREAT, GREAT)):
            for word in WORDS:
                for number in (-3, 0, 3):
                    self.assert_fits((number, time, word, 7), (number, greater, "get", 7))
                    self.assert_fits((number, time, word, 7), (number, greater, "get", 0), False)
                    self.assert_fits((number, time, word, 7), (number, greater, "get", -7), False)
                    self.assert_fits((number, time, word, 0), (number, greater, "get", 0))
                    self.assert_fits((number, time, word, 0), (number, greater, "get", 1), False)

    def test_the_same_number_and_a_time_that_is_not_greater(self):
        for time, other in ((5, 5), (6, 5), (10, 9), (0, -1), (0, 0), (GREAT, -GREAT)):
            for word in WORDS:
                for value in (0, 7, 8):
                    self.assert_fits((3, time, "set", 7), (3, other, word, value), False)

    def test_a_set_or_another_word_has_any_value(self):
        for word in WORDS[1:]:
            for value in (-GREAT, -1, 0, 1, 7, GREAT):
                self.assert_fits((3, 5, "set", 7), (3, 6, word, value))
                self.assert_fits((3, 5, "get", 7), (3, 6, word, value))
                self.assert_fits((3, 5, "get", 7), (4, 0, word, value))
                self.assert_fits(None, (3, 6, word, value))

    def test_behind_nothing(self):
        for number in (-GREAT, -1, 0, 1, GREAT):
            for time in (-GREAT, -1, 0, 1, GREAT):
                self.assert_fits(None, (number, time, "get", 0))
                for value in (-GREAT, -1, 1, number or 5, GREAT):
                    self.assert_fits(None, (number, time, "get", value), False)
                    self.assert_fits(None, (number, time, "set", value))


class UseMatches(unittest.TestCase):
    steps, uses = tables_of(THREE_CELLS, THREE_BOXES)

    def assert_matches(self, row, answer=True, steps=None, roll=THREE_CELLS):
        self.assertIs(use_matches(roll, self.steps if steps is None else steps, row), answer, row)

    def test_the_uses_of_runs(self):
        for roll, boxes in ENDING + ENDLESS:
            steps, uses = tables_of(roll, boxes)
            for row in uses:
                self.assert_matches(row, True, steps, roll)

    def test_a_number_a_value_or_a_word_that_is_another(self):
        for row in self.uses:
            for change in (-GREAT, -1, 1, GREAT):
                self.assert_matches(with_value(row, 0, row[0] + change), False)
                self.assert_matches(with_value(row, 3, row[3] + change), False)
            for word in WORDS:
                self.assert_matches(with_value(row, 2, word), word == row[2])

    def test_another_time(self):
        for row in self.uses:
            for time in FAR + tuple(range(14)):
                self.assert_matches(with_value(row, 1, time), time == row[1])

    def test_the_first_time_and_the_last_ones(self):
        for roll_row, row in ((("set", 0, 1), (10, 0, "set", 11)), (("get", 1, 0), (10, 0, "get", 11))):
            roll = (roll_row, ("jump", 0))
            steps = ((0, BOXES),) * 4
            for time in (0, 1, 2):
                self.assert_matches(with_value(row, 1, time), True, steps, roll)
            for time in (-GREAT, -5, -4, -3, -2, -1, 3, 4, 5, GREAT):
                self.assert_matches(with_value(row, 1, time), False, steps, roll)
            self.assert_matches(row, False, steps[:1], roll)
            self.assert_matches(with_value(row, 1, -1), False, steps[:1], roll)

    def test_steps_of_no_row(self):
        for time in (-GREAT, -2, -1, 0, 1, GREAT):
            for word in WORDS:
                self.assert_matches((0, time, word, 0), False, ())

    def test_a_place_that_is_no_row(self):
        roll = (("set", 0, 1), ("get", 1, 0), ("set", 0, 1), ("jump", 0))
        for place in (-GREAT, -5, -4, -3, -2, 4, 5, 6, GREAT):
            for word in ("get", "set"):
                self.assert_matches((10, 0, word, 11), False, ((place, BOXES), (1, BOXES)), roll)

    def test_a_row_that_is_no_get_or_set(self):
        rows = read_roll("put 0 1\nadd 0 1 0\nsub 0 1 0\nmore 0 1 0\njump 0\nwhen 0 1\ntell 0\nhalt")
        same = ((0, (4,) * 8), (0, (4,) * 8))
        for roll_row in rows:
            for word in WORDS + (roll_row[0],):
                self.assert_matches((4, 0, word, 4), False, same, (roll_row, ("halt",)))

    def test_the_boxes_that_count(self):
        for a, b in itertools.product(range(8), repeat=2):
            behind = tuple(100 + value for value in BOXES)
            steps = ((0, BOXES), (1, behind))
            for number, value in itertools.product(BOXES, BOXES + behind):
                got = number == BOXES[b] and value == behind[a]
                self.assert_matches((number, 0, "get", value), got, steps, (("get", a, b), ("halt",)))
                put = number == BOXES[a] and value == BOXES[b]
                self.assert_matches((number, 0, "set", value), put, steps, (("set", a, b), ("halt",)))


def plain_fault(roll, boxes, steps, uses):
    """The fault, told by going through the document's words one by one."""
    if not steps or steps[0] != (0, boxes):
        return ("begin", 0)
    for t in range(len(steps) - 1):
        if not plain_step_fits(roll, steps[t], steps[t + 1]):
            return ("step", t)
    places = [place for place, _ in steps]
    if roll[places[-1]] != ("halt",):
        return ("end", len(steps) - 1)
    for k, (number, time, word, value) in enumerate(uses):
        ahead = uses[k - 1] if k else (number - 1, 0, "set", 0)
        rises = number > ahead[0] or (number == ahead[0] and time > ahead[1])
        if not rises or (word == "get" and value != (ahead[3] if ahead[0] == number else 0)):
            return ("use", k)
    due = {}
    for t, place in enumerate(places[:-1]):
        if roll[place][0] == "get":
            due[t] = (steps[t][1][roll[place][2]], t, "get", steps[t + 1][1][roll[place][1]])
        if roll[place][0] == "set":
            due[t] = (steps[t][1][roll[place][1]], t, "set", steps[t][1][roll[place][2]])
    for k, row in enumerate(uses):
        if due.get(row[1]) != row:
            return ("match", k)
    return None if len(uses) == len(due) else ("count", len(uses))


def plain_step_fits(roll, row, behind):
    place, boxes = row
    if place not in range(len(roll)) or roll[place] == ("halt",):
        return False
    name, *parts = roll[place]
    after = list(boxes)
    if name == "put":
        after[parts[0]] = parts[1]
    if name == "get":
        after[parts[0]] = behind[1][parts[0]]
    if name in ("add", "sub", "more"):
        one, other = boxes[parts[1]], boxes[parts[2]]
        after[parts[0]] = {"add": one + other, "sub": one - other, "more": int(one > other)}[name]
    goes = name == "jump" or (name == "when" and boxes[parts[0]] > 0)
    return behind == (parts[-1] if goes else place + 1, tuple(after))


# Beyond the run's tables each of these brings in one fault, and they may be brought in at once.
def other_begin(boxes, steps, uses):
    return with_box(boxes, 7, 1), steps, uses


def other_step(boxes, steps, uses):
    return boxes, with_row(steps, 1, (1, with_box(steps[1][1], 3, 77))), uses


def other_end(boxes, steps, uses):
    return boxes, steps[:-1], uses


def other_use(boxes, steps, uses):
    return boxes, steps, uses + ((-5, 2, "set", 9),)


def other_match(boxes, steps, uses):
    return boxes, steps, with_row(uses, 0, with_value(uses[0], 2, "put"))


def other_count(boxes, steps, uses):
    return boxes, steps, without_row(uses, 6)


class Faults(unittest.TestCase):
    steps, uses = tables_of(THREE_CELLS, THREE_BOXES)

    def assert_fault(self, answer, boxes=THREE_BOXES, steps=None, uses=None, roll=THREE_CELLS):
        steps = self.steps if steps is None else steps
        uses = self.uses if uses is None else uses
        found = fault(roll, boxes, steps, uses)
        self.assertEqual(found, answer)
        self.assertEqual(found, plain_fault(roll, boxes, steps, uses))
        if found is not None:
            self.assertEqual([type(found), type(found[0]), type(found[1])], [tuple, str, int])

    def test_all_fits(self):
        self.assert_fault(None)

    def test_begin(self):
        for box in range(8):
            self.assert_fault(("begin", 0), boxes=with_box(THREE_BOXES, box, 1))
        for place in (-13, -1, 1, 12, 13, GREAT):
            self.assert_fault(("begin", 0), steps=with_row(self.steps, 0, (place, THREE_BOXES)))
        self.assert_fault(("begin", 0), steps=self.steps[1:])

    def test_no_steps(self):
        self.assert_fault(("begin", 0), steps=())
        self.assert_fault(("begin", 0), steps=(), uses=())
        self.assert_fault(("begin", 0), steps=(), uses=(), roll=(("halt",),))

    def test_steps_of_one_row(self):
        self.assert_fault(None, BOXES, ((0, BOXES),), (), (("halt",),))
        self.assert_fault(("begin", 0), BOXES, ((0, NOUGHTS),), (), (("halt",),))
        for roll in (THREE_CELLS, FOREVER, (("jump", 0),), (("get", 0, 0), ("halt",))):
            self.assert_fault(("end", 0), BOXES, ((0, BOXES),), (), roll)
        self.assert_fault(("use", 0), BOXES, ((0, BOXES),), ((1, 0, "get", 2),), (("halt",),))
        self.assert_fault(("match", 0), BOXES, ((0, BOXES),), ((1, 0, "get", 0),), (("halt",),))

    def test_step_at_each_time(self):
        for t in range(len(self.steps) - 1):
            row = self.steps[t + 1]
            self.assert_fault(("step", t), steps=with_row(self.steps, t + 1, (row[0], with_box(row[1], 4, 70))))
            for place in (-1, -13, row[0] + 1, row[0] - 13, 13, GREAT, -GREAT):
                self.assert_fault(("step", t), steps=with_row(self.steps, t + 1, (place, row[1])))

    def test_a_step_left_out_put_twice_exchanged(self):
        last = len(self.steps) - 1
        for t in range(1, last):
            self.assert_fault(("step", t - 1), steps=without_row(self.steps, t))
            self.assert_fault(("step", t), steps=self.steps[:t + 1] + self.steps[t:])
            exchanged = self.steps[:t] + (self.steps[t + 1], self.steps[t]) + self.steps[t + 2:]
            self.assert_fault(("step", t - 1), steps=exchanged)

    def test_a_row_behind_the_halt(self):
        last = len(self.steps) - 1
        for row in (self.steps[last], (13, self.steps[last][1]), self.steps[0]):
            self.assert_fault(("step", last), steps=self.steps + (row,))

    def test_end(self):
        for many in range(1, len(self.steps)):
            self.assert_fault(("end", many - 1), steps=self.steps[:many])
            self.assert_fault(("end", many - 1), steps=self.steps[:many], uses=())

    def test_another_value_read(self):
        # The steps alone fit with any value that is read, and so do not tell it.
        roll = read_roll("get 1 0\ntell 1\nhalt")
        boxes = (4,) + (0,) * 7
        for value in (-1, 1, 4, GREAT):
            read = with_box(boxes, 1, value)
            steps = ((0, boxes), (1, read), (2, read))
            self.assert_fault(("use", 0), boxes, steps, ((4, 0, "get", value),), roll)
            self.assert_fault(("match", 0), boxes, steps, ((4, 0, "get", 0),), roll)
            self.assert_fault(("count", 0), boxes, steps, (), roll)
            self.assert_fault(("match", 0), boxes, steps, ((4, 0, "set", value),), roll)
            self.assert_fault(("match", 0), boxes, steps, ((4, -1, "set", value), (4, 0, "get", value)), roll)

    def test_use_at_each_row(self):
        for k, row in enumerate(self.uses):
            self.assert_fault(("use", k + 1), uses=self.uses[:k + 1] + self.uses[k:])
            if k:
                self.assert_fault(("use", k), uses=with_row(self.uses, k, with_value(row, 0, -3)))
                exchanged = self.uses[:k - 1] + (row, self.uses[k - 1]) + self.uses[k + 1:]
                # Where the row that comes too soon is a get, it may not fit either.
                soon = use_fits(self.uses[k - 2] if k > 1 else None, row)
                self.assert_fault(("use", k if soon else k - 1), uses=exchanged)
            if row[2] == "get":
                self.assert_fault(("use", k), uses=with_row(self.uses, k, with_value(row, 3, 70)))

    def test_match_at_each_row(self):
        for k, row in enumerate(self.uses):
            for word in WORDS[2:]:
                self.assert_fault(("match", k), uses=with_row(self.uses, k, with_value(row, 2, word)))
        self.assert_fault(("match", 0), uses=with_row(self.uses, 0, with_value(self.uses[0], 1, 2)))
        self.assert_fault(("match", 6), uses=with_row(self.uses, 6, with_value(self.uses[6], 0, 13)))
        self.assert_fault(("match", 6), uses=with_row(self.uses, 6, with_value(self.uses[6], 3, 6)))
        for time in (-GREAT, -13, -6, -1, 0, 6, 12, 13, GREAT):
            self.assert_fault(("match", 6), uses=with_row(self.uses, 6, with_value(self.uses[6], 1, time)))

    def test_a_use_too_many_of_another_cell(self):
        for row in ((13, 0, "set", 1), (13, 7, "set", 5), (13, 7, "get", 0), (13, GREAT, "set", 5)):
            self.assert_fault(("match", 7), uses=self.uses + (row,))

    def test_count(self):
        self.assert_fault(("count", 0), uses=())
        self.assert_fault(("count", 6), uses=without_row(self.uses, 6))
        self.assert_fault(("count", 5), uses=self.uses[:5])
        self.assert_fault(("count", 6), uses=without_row(self.uses, 5))
        self.assert_fault(("count", 6), uses=without_row(self.uses, 4))
        self.assert_fault(("count", 3), uses=self.uses[4:])

    def test_a_use_left_out(self):
        # Without the set ahead of it a get does not fit; else the count tells it.
        answers = [("use", 0), ("count", 6), ("use", 2), ("count", 6), ("count", 6), ("count", 6), ("count", 6)]
        for k, answer in enumerate(answers):
            self.assert_fault(answer, uses=without_row(self.uses, k))

    def test_each_fault_alone_and_all_at_once(self):
        changes = (other_begin, other_step, other_end, other_use, other_match, other_count)
        answers = (("begin", 0), ("step", 0), ("end", 11), ("use", 7), ("match", 0), ("count", 6))
        for chosen in itertools.product((False, True), repeat=6):
            boxes, steps, uses = THREE_BOXES, self.steps, self.uses
            # From the last one on, since it leaves out a row by its number, and another puts one behind.
            for change, picked in reversed(list(zip(changes, chosen))):
                if picked:
                    boxes, steps, uses = change(boxes, steps, uses)
            told = [answer for answer, picked in zip(answers, chosen) if picked]
            answer = told[0] if told else None
            if answer == ("use", 7) and chosen[5]:
                answer = ("use", 6)
            self.assert_fault(answer, boxes, steps, uses)

    def test_several_of_one_kind(self):
        steps = with_row(self.steps, 9, (0, NOUGHTS))
        self.assert_fault(("step", 3), steps=with_row(steps, 4, (0, NOUGHTS)))
        uses = with_row(self.uses, 6, with_value(self.uses[6], 2, "put"))
        self.assert_fault(("match", 5), uses=with_row(uses, 5, with_value(uses[5], 2, "put")))
        uses = with_row(self.uses, 6, with_value(self.uses[6], 0, -9))
        self.assert_fault(("use", 3), uses=with_row(uses, 3, with_value(uses[3], 3, 1)))

    def test_a_use_that_does_not_fit_comes_ahead_of_a_match_at_a_lesser_row(self):
        uses = with_row(self.uses, 0, with_value(self.uses[0], 2, "put"))
        self.assert_fault(("use", 6), uses=with_row(uses, 6, with_value(uses[6], 0, -9)))

    def test_a_last_row_of_uses_at_the_halt(self):
        self.assert_fault(("match", 7), uses=self.uses + ((20, len(self.steps) - 1, "set", 0),))

    def test_places_that_would_count_from_the_end(self):
        roll = read_roll("jump 1\nhalt")
        self.assert_fault(("step", 0), NOUGHTS, ((0, NOUGHTS), (-1, NOUGHTS)), (), roll)
        self.assert_fault(None, NOUGHTS, ((0, NOUGHTS), (1, NOUGHTS)), (), roll)


class RunsAlone(unittest.TestCase):
    def test_runs_that_end(self):
        for roll, boxes in ENDING:
            self.assertIsNone(fault(roll, boxes, *tables_of(roll, boxes)))

    def test_runs_that_have_not_ended(self):
        for roll, boxes in ENDING + ENDLESS:
            for most in range(30):
                states = run(roll, boxes, most)
                answer = None if ended(roll, states) else ("end", most)
                self.assertEqual(fault(roll, boxes, *tables_of(roll, boxes, most)), answer)

    def test_two_thousand_and_one_rows(self):
        steps, uses = tables_of(LONG, LONG_BOXES, 2000)
        self.assertEqual(len(steps), 2001)
        self.assertIsNone(fault(LONG, LONG_BOXES, steps, uses))
        last = (4, with_box(steps[2000][1], 3, 2))
        self.assertEqual(fault(LONG, LONG_BOXES, with_row(steps, 2000, last), uses), ("step", 1999))
        self.assertEqual(fault(LONG, LONG_BOXES, steps[:-1], uses), ("end", 1999))
        self.assertEqual(fault(LONG, LONG_BOXES, steps, uses[:-1]), ("count", 999))
        self.assertEqual(fault(LONG, LONG_BOXES, steps, with_row(uses, 999, (500, 1, "get", 2))), ("use", 999))
        self.assertEqual(fault(LONG, LONG_BOXES, steps, with_row(uses, 999, (500, 1, "put", 1))), ("match", 999))
        endless = tables_of(DOWNWARD, DOWNWARD_BOXES, 2000)
        self.assertEqual(fault(DOWNWARD, DOWNWARD_BOXES, *endless), ("end", 2000))

    def test_each_value_changed(self):
        for roll, boxes in ENDING:
            steps, uses = tables_of(roll, boxes)
            for t, (place, in_boxes) in enumerate(steps):
                for change in (-len(roll), -1, 1, len(roll)):
                    self.assertIsNotNone(fault(roll, boxes, with_row(steps, t, (place + change, in_boxes)), uses))
                for box in range(8):
                    changed = (place, with_box(in_boxes, box, in_boxes[box] + 1))
                    self.assertIsNotNone(fault(roll, boxes, with_row(steps, t, changed), uses))
            for k, row in enumerate(uses):
                for at in (0, 1, 3):
                    for change in (-1, 1):
                        changed = with_row(uses, k, with_value(row, at, row[at] + change))
                        self.assertIsNotNone(fault(roll, boxes, steps, changed))
                other = "set" if row[2] == "get" else "get"
                self.assertIsNotNone(fault(roll, boxes, steps, with_row(uses, k, with_value(row, 2, other))))

    def test_another_value_read_all_through(self):
        # Whoever tells another value at a get, and goes on rightly from it, is told by the uses.
        roll = read_roll("get 1 0\nadd 1 1 2\nset 0 1\nget 3 0\nhalt")
        boxes = (4, 0, 6) + (0,) * 5
        steps, uses = tables_of(roll, boxes)
        self.assertIsNone(fault(roll, boxes, steps, uses))
        lie = [(place, with_box(b, 1, b[1] + 5) if t else b) for t, (place, b) in enumerate(steps)]
        lie[4] = (4, with_box(lie[4][1], 3, 11))
        lying_uses = ((4, 0, "get", 5), (4, 2, "set", 11), (4, 3, "get", 11))
        self.assertEqual(fault(roll, boxes, tuple(lie), lying_uses), ("use", 0))
        self.assertEqual(fault(roll, boxes, tuple(lie), uses), ("match", 0))
        self.assertEqual(fault(roll, boxes, tuple(lie), lying_uses[1:]), ("count", 2))

    def test_tables_changed_by_chance(self):
        numbers = chance(5)
        seen = {}
        for roll, boxes in ENDING * 250:
            right = tables_of(roll, boxes)
            steps, uses = right
            for _ in range(numbers.randrange(4)):
                steps, uses = self.changed(numbers, steps, uses)
            found = fault(roll, boxes, steps, uses)
            self.assertEqual(found, plain_fault(roll, boxes, steps, uses), (roll, steps, uses))
            self.assertEqual(found is None, (steps, uses) == right)
            name = None if found is None else found[0]
            seen[name] = seen.get(name, 0) + 1
        self.assertEqual(set(seen), {None, "begin", "step", "end", "use", "match", "count"})

    def changed(self, numbers, steps, uses):
        if numbers.randrange(4) == 0 and steps:
            at = numbers.randrange(len(steps))
            place, boxes = steps[at]
            place = place + numbers.choice((0, 0, 1, -1, -13, GREAT))
            box = numbers.randrange(8)
            row = (place, with_box(boxes, box, boxes[box] + numbers.choice((0, 1, -1))))
            return numbers.choice((with_row(steps, at, row), without_row(steps, at), steps[:-1])), uses
        if not uses:
            return steps, ((numbers.randrange(3), numbers.randrange(3), numbers.choice(WORDS), 0),)
        at = numbers.randrange(len(uses))
        row = uses[at]
        part = numbers.randrange(4)
        value = numbers.choice(WORDS) if part == 2 else row[part] + numbers.choice((1, -1, 2, GREAT))
        return steps, numbers.choice((
            with_row(uses, at, with_value(row, part, value)), without_row(uses, at), uses[:at] + uses[at - 1:],
        ))


class Kept(unittest.TestCase):
    def test_lookers_are_asked_again_and_tell_the_same(self):
        steps, uses = tables_of(THREE_CELLS, THREE_BOXES)
        for _ in range(3):
            self.assertIsNone(fault(THREE_CELLS, THREE_BOXES, steps, uses))
            self.assertEqual(fault(THREE_CELLS, THREE_BOXES, steps[:-1], uses), ("end", 11))
            self.assertEqual(fault(COUNTDOWN, THREE_BOXES, steps, uses), ("step", 0))
        self.assertEqual((steps, uses), tables_of(THREE_CELLS, THREE_BOXES))


class Interface(unittest.TestCase):
    def test_names_and_arguments(self):
        self.assertEqual(arguments(step_fits), "(roll, row, behind)")
        self.assertEqual(arguments(use_fits), "(ahead, row)")
        self.assertEqual(arguments(use_matches), "(roll, steps, row)")
        self.assertEqual(arguments(fault), "(roll, boxes, steps, uses)")

    def test_arguments_by_name(self):
        steps, uses = tables_of(THREE_CELLS, THREE_BOXES)
        self.assertIs(step_fits(roll=THREE_CELLS, row=steps[0], behind=steps[1]), True)
        self.assertIs(use_fits(ahead=None, row=uses[0]), True)
        self.assertIs(use_matches(roll=THREE_CELLS, steps=steps, row=uses[0]), True)
        self.assertIsNone(fault(roll=THREE_CELLS, boxes=THREE_BOXES, steps=steps, uses=uses))


if __name__ == "__main__":
    unittest.main()
