import itertools
import unittest

from programs import (
    CELLS, COUNT, EVERY_ROW, FOREVER, PLAIN_GIVENS, PLAIN_TEXTS, SQUARE, plain_meaning, plain_roll, some_given,
    some_program,
)
from samples import GREAT, arguments, chance, tables_of, with_box, with_row, with_value, without_row
from stepledger.errors import BadGiven, BadRow, LedgerError, Spent, Unfit
from stepledger.lookers import fault
from stepledger.making import boxes_of, roll_of
from stepledger.meaning import meaning
from stepledger.pieces import cut_steps, joined_steps
from stepledger.texts import read, shown
from stepledger.whole import answer, claims, tables

# Texts that are refused, and the row at which.
BAD_TEXTS = (("tell", 1), ("tell 1\nend", 2), ("while 1\n\n", 4), ("take a a", 1), ("tell a\ntake b", 2), (" ", 1))
PLAIN = tuple(zip(PLAIN_TEXTS, PLAIN_GIVENS))


def made(text, given):
    """The roll and the boxes, made in another way than the package's own."""
    program = read(text)
    return plain_roll(program), tuple(given) + (0,) * (8 - len(given))


def changed_steps(steps, source):
    """Steps with one thing changed that differ."""
    at = source.randrange(len(steps))
    place, boxes = steps[at]
    other = source.randrange(len(steps))
    box = source.randrange(8)
    return source.choice((
        without_row(steps, at),
        steps[:at] + steps[at:at + 1] + steps[at:],
        with_row(with_row(steps, at, steps[other]), other, steps[at]),
        with_row(steps, at, (place + source.choice((-1, 1, 400)), boxes)),
        with_row(steps, at, (place, with_box(boxes, box, boxes[box] + source.choice((-1, 1))))),
        steps[:at],
        (),
    ))


def changed_uses(uses, source):
    """Uses with one thing changed."""
    if not uses:
        return ((1, 0, "get", 0),)
    at = source.randrange(len(uses))
    other = source.randrange(len(uses))
    part = source.choice((0, 1, 3))
    return source.choice((
        without_row(uses, at),
        uses[:at] + uses[at:at + 1] + uses[at:],
        with_row(with_row(uses, at, uses[other]), other, uses[at]),
        with_row(uses, at, with_value(uses[at], part, uses[at][part] + source.choice((-1, 1)))),
        with_row(uses, at, with_value(uses[at], 2, "set" if uses[at][2] == "get" else "get")),
        with_row(uses, at, with_value(uses[at], 2, "tell")),
        uses[:at],
    ))


class Whole(unittest.TestCase):
    def assert_bad_row(self, row, function, *asked):
        with self.assertRaises(BadRow) as caught:
            function(*asked)
        self.assertEqual(caught.exception.row, row, asked)

    def assert_unfit(self, text, given, steps, uses, found=None):
        roll, boxes = made(text, given)
        expected = fault(roll, boxes, steps, uses)
        self.assertIsNotNone(expected)
        if found is not None:
            self.assertEqual(expected, found)
        with self.assertRaises(Unfit) as caught:
            answer(text, given, steps, uses)
        self.assertEqual(caught.exception.fault, expected)
        self.assertIs(type(caught.exception.fault), tuple)


class Tables(Whole):
    def test_the_names_arguments_and_kinds(self):
        self.assertEqual(arguments(tables), "(text, given, most=400)")
        self.assertEqual(arguments(answer), "(text, given, steps, uses)")
        self.assertEqual(arguments(claims), "(text, given, one, other)")

    def test_a_small_table(self):
        noughts = (0,) * 8
        self.assertEqual(tables("", ()), (((0, noughts),), ()))
        self.assertEqual(
            tables("tell 5", ()), (((0, noughts), (1, (5,) + noughts[1:]), (2, (5,) + noughts[1:])), ())
        )
        began = (9,) + (0,) * 7
        self.assertEqual(
            tables("take a\ntell a", (9,)),
            (
                (
                    (0, began), (1, began[:7] + (1,)), (2, began[:7] + (1,)), (3, began[:7] + (1,)),
                    (4, began[:7] + (1,)), (5, began[:7] + (1,)),
                ),
                ((1, 1, "set", 9), (1, 3, "get", 9)),
            ),
        )

    def test_the_run_s_own_tables(self):
        for text, given in PLAIN:
            found = tables(text, given)
            self.assertEqual(found, tables_of(*made(text, given)))
            self.assertEqual([type(found), type(found[0]), type(found[1])], [tuple] * 3)
            self.assertEqual(len(found[0]) - 1, meaning(read(text), given)[1])

    def test_by_just_the_bound_that_is_needed(self):
        for text, given in PLAIN:
            steps = meaning(read(text), given)[1]
            found = tables(text, given, steps)
            self.assertEqual(found, tables(text, given))
            self.assertEqual(tables(text, given, most=2000), found)
            if steps > 0:
                for most in (steps - 1, steps // 2, 0):
                    with self.assertRaises(Spent):
                        tables(text, given, most)

    def test_without_a_bound(self):
        self.assertEqual(len(tables("tell 1\n" * 200, ())[0]), 401)
        for text in ("tell 1\n" * 200 + "while 0\nend", "tell 1\n" * 201, FOREVER):
            with self.assertRaises(Spent):
                tables(text, ())
        self.assertEqual(len(tables("tell 1\n" * 201, (), 402)[0]), 403)

    def test_without_end(self):
        for most in (0, 1, 100, 2000):
            with self.assertRaises(Spent):
                tables(FOREVER, (), most)

    def test_two_thousand_steps(self):
        text = "take a\nset left a\nwhile left\nset left sub left 1\nend"
        steps, uses = tables(text, (199,), 2000)
        self.assertEqual(len(steps), 2001)
        self.assertEqual(answer(text, (199,), steps, uses), [])
        with self.assertRaises(Spent):
            tables(text, (199,), 1999)
        with self.assertRaises(Spent):
            tables(text, (200,), 2000)

    def test_refusals(self):
        for text, row in BAD_TEXTS:
            for given in ((), (1,), (1,) * 9):
                for most in (0, 400):
                    self.assert_bad_row(row, tables, text, given, most)
        endless = "take a\n" + FOREVER
        for text, given in (("", (1,)), ("take a", ()), ("take a", (1, 2)), (FOREVER, (1,)), (endless, ())):
            for most in (0, 400):
                with self.assertRaises(BadGiven):
                    tables(text, given, most)


class Answers(Whole):
    def test_the_run_s_own_tables(self):
        for text, given in PLAIN:
            found = answer(text, given, *tables(text, given))
            self.assertEqual(found, meaning(read(text), given)[0])
            self.assertIs(type(found), list)
            self.assertEqual({type(number) for number in found} | {int}, {int})
        self.assertEqual(answer(COUNT, (), *tables(COUNT, ())), list(range(10)))
        self.assertEqual(answer(SQUARE, (5,), *tables(SQUARE, (5,))), [25])
        self.assertEqual(answer(CELLS, (), *tables(CELLS, ())), [7, 30, 30, 0])

    def test_tables_by_their_names(self):
        steps, uses = tables("tell 5", ())
        self.assertEqual(answer(text="tell 5", given=(), steps=steps, uses=uses), [5])

    def test_more_rows_than_a_bound_would_allow(self):
        text = "tell 1\n" * 300
        self.assertEqual(answer(text, (), *tables(text, (), 600)), [1] * 300)

    def test_great_numbers(self):
        text = "take a b\ntell add a a\nput a b\ntell cell a"
        self.assertEqual(answer(text, (GREAT, -GREAT), *tables(text, (GREAT, -GREAT))), [2 * GREAT, -GREAT])

    def test_each_fault(self):
        text, given = "take a\nput 3 a\ntell cell 3", (9,)
        steps, uses = tables(text, given)
        # a's cell is 1, and the program's cell 3 is 6
        self.assertEqual(uses, ((1, 1, "set", 9), (1, 5, "get", 9), (6, 6, "set", 9), (6, 9, "get", 9)))
        last = len(steps) - 1
        self.assert_unfit(text, given, (), uses, ("begin", 0))
        self.assert_unfit(text, given, steps[1:], uses, ("begin", 0))
        self.assert_unfit(text, (8,), steps, uses, ("begin", 0))
        self.assert_unfit(text, given, without_row(steps, 4), uses, ("step", 3))
        self.assert_unfit(text, given, steps[:-1], uses, ("end", last - 1))
        self.assert_unfit(text, given, steps + steps[-1:], uses, ("step", last))
        self.assert_unfit(text, given, steps, uses[::-1], ("use", 0))
        self.assert_unfit(text, given, steps, uses[2:] + uses[:2], ("use", 2))
        self.assert_unfit(text, given, steps, uses + uses[-1:], ("use", 4))
        self.assert_unfit(text, given, steps, with_row(uses, 3, (6, 9, "get", 8)), ("use", 3))
        self.assert_unfit(text, given, steps, with_row(uses, 2, (6, 7, "set", 9)), ("match", 2))
        self.assert_unfit(text, given, steps, uses[:-1], ("count", 3))
        self.assert_unfit(text, given, steps, (), ("count", 0))

    def test_tables_of_another_text(self):
        steps, uses = tables("tell 5", ())
        self.assert_unfit("tell 6", (), steps, uses, ("step", 0))
        self.assert_unfit("set a 5", (), steps, uses, ("step", 1))
        self.assert_unfit("tell 5\ntell 5", (), steps, uses, ("end", 2))

    def test_another_number_told_is_not_let_by(self):
        # Each cell and value of both tables changed by one.
        text, given = EVERY_ROW, (2, 1)
        steps, uses = tables(text, given)
        self.assertEqual(answer(text, given, steps, uses), [-2, -1, -7])
        for at, (place, boxes) in enumerate(steps):
            self.assert_unfit(text, given, with_row(steps, at, (place + 1, boxes)), uses)
            for box in range(8):
                self.assert_unfit(text, given, with_row(steps, at, (place, with_box(boxes, box, boxes[box] + 1))), uses)
        for at, row in enumerate(uses):
            for part in (0, 1, 3):
                self.assert_unfit(text, given, steps, with_row(uses, at, with_value(row, part, row[part] + 1)))
            self.assert_unfit(text, given, steps, with_row(uses, at, with_value(row, 2, "")))

    def test_rows_left_out_put_twice_or_exchanged(self):
        for text, given in PLAIN:
            steps, uses = tables(text, given)
            for at in range(len(steps)):
                self.assert_unfit(text, given, without_row(steps, at), uses)
                self.assert_unfit(text, given, steps[:at + 1] + steps[at:], uses)
            for at in range(len(uses)):
                self.assert_unfit(text, given, steps, without_row(uses, at))
                self.assert_unfit(text, given, steps, uses[:at + 1] + uses[at:])
            for at in range(len(steps) - 1):
                exchanged = steps[:at] + (steps[at + 1], steps[at]) + steps[at + 2:]
                self.assert_unfit(text, given, exchanged, uses)
            for at in range(len(uses) - 1):
                self.assert_unfit(text, given, steps, uses[:at] + (uses[at + 1], uses[at]) + uses[at + 2:])

    def test_a_get_that_tells_what_was_never_put(self):
        # The steps alone would let by any value behind a get; only the uses tell that it is wrong.
        text = "tell cell 3"
        steps, uses = tables(text, ())
        lie = tuple((place, with_box(boxes, 0, 5)) if place >= 3 else (place, boxes) for place, boxes in steps)
        self.assert_unfit(text, (), lie, ((6, 2, "get", 5),), ("use", 0))
        self.assert_unfit(text, (), lie, uses, ("match", 0))
        self.assert_unfit(text, (), lie, (), ("count", 0))

    def test_refusals_in_their_order(self):
        for text, row in BAD_TEXTS:
            for given in ((), (1,), (1,) * 9):
                self.assert_bad_row(row, answer, text, given, (), ())
                self.assert_bad_row(row, answer, text, given, *tables("", ()))
        for text, given in (("", (1,)), ("take a", ()), ("take a", (1, 2)), ("take a b", (1,))):
            for both in (((), ()), tables("", ())):
                with self.assertRaises(BadGiven):
                    answer(text, given, *both)
        self.assert_unfit(FOREVER, (), (), ())

    def test_a_run_without_end_has_no_tables(self):
        roll, boxes = made(FOREVER, ())
        steps, uses = tables_of(roll, boxes, 50)
        self.assert_unfit(FOREVER, (), steps, uses, ("end", 50))

    def test_a_refusal_is_a_ledger_error(self):
        with self.assertRaises(LedgerError):
            answer("tell 1", (), (), ())
        self.assertTrue(issubclass(Unfit, ValueError))


class Claims(Whole):
    def test_of_two_of_one_and_of_none(self):
        for text, given in PLAIN:
            right = tables(text, given)
            wrong = (right[0][:-1], right[1])
            other = (right[0], right[1] + ((10 ** 6, 0, "set", 0),))
            for first, second in itertools.product((right, wrong, other), repeat=2):
                found = claims(text, given, first, second)
                self.assertEqual(found, (first is right, second is right))
                self.assertIs(type(found), tuple)
                self.assertEqual({type(truth) for truth in found}, {bool})

    def test_both_may_be_the_same(self):
        both = tables("tell 5", ())
        self.assertEqual(claims("tell 5", (), both, both), (True, True))
        self.assertEqual(claims("tell 6", (), both, both), (False, False))
        self.assertEqual(claims("tell 6", (), ((), ()), tables("tell 6", ())), (False, True))
        self.assertEqual(claims(text="tell 5", given=(), one=both, other=((), ())), (True, False))

    def test_of_other_givens(self):
        text = "take a\ntell a"
        self.assertEqual(claims(text, (1,), tables(text, (1,)), tables(text, (2,))), (True, False))
        self.assertEqual(claims(text, (2,), tables(text, (1,)), tables(text, (2,))), (False, True))
        self.assertEqual(claims(text, (3,), tables(text, (1,)), tables(text, (2,))), (False, False))

    def test_what_they_refuse(self):
        both = tables("", ())
        for text, row in BAD_TEXTS:
            for given in ((), (1,), (1,) * 9):
                self.assert_bad_row(row, claims, text, given, both, both)
                self.assert_bad_row(row, claims, text, given, ((), ()), both)
        for text, given in (("", (1,)), ("take a", ()), ("take a", (1, 2)), ("take a\n" + FOREVER, ())):
            for one, other in ((both, both), (((), ()), both), (both, ((), ()))):
                with self.assertRaises(BadGiven):
                    claims(text, given, one, other)
        self.assertEqual(claims(FOREVER, (), both, ((), ())), (False, False))


class Owned(unittest.TestCase):
    def test_the_lists_told_are_the_asker_s_own(self):
        steps, uses = tables(COUNT, ())
        one = answer(COUNT, (), steps, uses)
        other = answer(COUNT, (), steps, uses)
        one.append(99)
        one[0] = 98
        self.assertEqual(other, list(range(10)))
        self.assertEqual(answer(COUNT, (), steps, uses), list(range(10)))
        self.assertEqual(tables(COUNT, ()), (steps, uses))

    def test_nothing_is_kept_from_one_call_to_the_next(self):
        before = tables(SQUARE, (3,))
        tables(SQUARE, (4,))
        with self.assertRaises(Spent):
            tables(SQUARE, (3,), 5)
        with self.assertRaises(Unfit):
            answer(SQUARE, (3,), (), ())
        claims(SQUARE, (3,), before, ((), ()))
        self.assertEqual(tables(SQUARE, (3,)), before)
        self.assertEqual(answer(SQUARE, (3,), *before), [9])


class Everything(Whole):
    def test_programs_by_chance(self):
        source = chance(26)
        refused = 0
        for _ in range(400):
            program = some_program(source)
            given = some_given(source, program)
            text = shown(program)
            found = plain_meaning(program, given, 200)
            if found is None:
                with self.assertRaises(Spent):
                    tables(text, given, 200)
                continue
            steps, uses = tables(text, given, found[1])
            self.assertEqual(len(steps), found[1] + 1)
            self.assertEqual(answer(text, given, steps, uses), found[0])
            self.assertEqual((steps, uses), tables_of(*made(text, given)))
            for _ in range(6):
                other = (changed_steps(steps, source), uses)
                if source.randrange(2):
                    other = (steps, changed_uses(uses, source))
                fits = other == (steps, uses)
                self.assertEqual(claims(text, given, (steps, uses), other), (True, fits))
                self.assertEqual(claims(text, given, other, (steps, uses)), (fits, True))
                if not fits:
                    refused += 1
                    self.assert_unfit(text, given, *other)
        self.assertGreater(refused, 1000)

    def test_tables_cut_and_joined_again_are_answered(self):
        steps, uses = tables(EVERY_ROW, (4, 1))
        joined = joined_steps(cut_steps(steps, [1, 5, 6, 40]))
        self.assertEqual(answer(EVERY_ROW, (4, 1), joined, uses), [-4, -3, -2, -1, -7])

    def test_the_package_s_own_roll_and_boxes_have_the_same_fault(self):
        steps, uses = tables(SQUARE, (2,))
        program = read(SQUARE)
        for other in (steps[:-1], steps[1:], ()):
            self.assert_unfit(SQUARE, (2,), other, uses, fault(roll_of(program), boxes_of(program, (2,)), other, uses))


if __name__ == "__main__":
    unittest.main()
