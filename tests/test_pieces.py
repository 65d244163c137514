import itertools
import unittest

from samples import (
    ALL_ROWS, BOXES, COUNTDOWN, DOWNWARD, DOWNWARD_BOXES, ENDING, ENDLESS, GREAT, NOUGHTS, THREE_BOXES, THREE_CELLS,
    arguments, chance, tables_of, with_box, with_row, with_value, without_row,
)
from stepledger.errors import BadCut
from stepledger.lookers import fault
from stepledger.pieces import cut_steps, cut_uses, joined_steps, steps_fault, uses_fault

STEPS, USES = tables_of(THREE_CELLS, THREE_BOXES)
LAST = len(STEPS) - 1
MANY = len(USES)


def rows(many):
    return tuple((n, BOXES) for n in range(many))


def use_rows(many):
    return tuple((n, n, "set", n) for n in range(many))


def rising(least, most):
    """Each list of numbers from least to most that rises."""
    numbers = range(least, most + 1)
    return [list(cuts) for many in range(len(numbers) + 1) for cuts in itertools.combinations(numbers, many)]


class Refusals(unittest.TestCase):
    def assert_bad_cut(self, cut, table, cuts):
        copy = list(cuts)
        with self.assertRaises(BadCut, msg=repr(cuts)):
            cut(table, cuts)
        self.assertEqual(cuts, copy)


class CutSteps(Refusals):
    def test_a_few_cuts(self):
        five = rows(5)
        self.assertEqual(cut_steps(five, [1]), [five[:2], five[1:]])
        self.assertEqual(cut_steps(five, [3]), [five[:4], five[3:]])
        self.assertEqual(cut_steps(five, [1, 2]), [five[:2], five[1:3], five[2:]])
        self.assertEqual(cut_steps(five, [1, 2, 3]), [five[:2], five[1:3], five[2:4], five[3:]])

    def test_no_cuts(self):
        for many in (0, 1, 2, 3, 20):
            self.assertEqual(cut_steps(rows(many), []), [rows(many)])

    def test_each_allowed_row(self):
        for cut in range(1, LAST):
            self.assertEqual(cut_steps(STEPS, [cut]), [STEPS[:cut + 1], STEPS[cut:]])

    def test_all_cuts_of_few_rows(self):
        for many in range(8):
            for cuts in rising(1, many - 2):
                pieces = cut_steps(rows(many), cuts)
                self.assertEqual(len(pieces), len(cuts) + 1)
                for piece, begin, end in zip(pieces, [0] + cuts, cuts + [many - 1]):
                    self.assertEqual(piece, tuple((n, BOXES) for n in range(begin, end + 1)))

    def test_every_list_of_few_numbers(self):
        for many in range(6):
            allowed = rising(1, many - 2)
            for length in range(4):
                for numbers in itertools.product(range(-2, many + 2), repeat=length):
                    cuts = list(numbers)
                    if cuts in allowed:
                        self.assertEqual(len(cut_steps(rows(many), cuts)), length + 1)
                    else:
                        self.assert_bad_cut(cut_steps, rows(many), cuts)

    def test_wrong_cuts(self):
        for cuts in (
            [0], [LAST], [LAST + 1], [LAST + 2], [-1], [-LAST], [-2], [GREAT], [-GREAT], [3, 3], [4, 3], [1, 2, 2],
            [2, 1, 3], [0, 1], [1, LAST], [-1, 1], [1, 2, LAST + 1], [LAST, 1], [5, 6, 4], [5, 6, 0],
        ):
            self.assert_bad_cut(cut_steps, STEPS, cuts)

    def test_steps_of_no_row_one_and_two(self):
        for many in (0, 1, 2):
            for cut in (-GREAT, -2, -1, 0, 1, 2, 3, GREAT):
                self.assert_bad_cut(cut_steps, rows(many), [cut])
        self.assertEqual(cut_steps(rows(3), [1]), [rows(2), rows(3)[1:]])

    def test_what_is_no_list_of_whole_numbers(self):
        for cuts in ([True], ["1"], [None], [1, None], [(1,)]):
            self.assert_bad_cut(cut_steps, STEPS, cuts)
        for cuts in (None, "", "1", 1, {}):
            self.assertRaises(BadCut, cut_steps, STEPS, cuts)

    def test_kinds(self):
        for many, cuts in ((0, []), (1, []), (6, [2, 3])):
            pieces = cut_steps(rows(many), cuts)
            self.assertIs(type(pieces), list)
            self.assertEqual({type(piece) for piece in pieces}, {tuple})

    def test_two_thousand_and_one_rows(self):
        steps = tables_of(DOWNWARD, DOWNWARD_BOXES, 2000)[0]
        cuts = list(range(1, 2000))
        pieces = cut_steps(steps, cuts)
        self.assertEqual(pieces, [steps[t:t + 2] for t in range(2000)])
        self.assert_bad_cut(cut_steps, steps, cuts + [2000])
        self.assert_bad_cut(cut_steps, steps, [0] + cuts)


class CutUses(Refusals):
    def test_a_few_cuts(self):
        four = use_rows(4)
        self.assertEqual(cut_uses(four, [1]), [four[:1], four[1:]])
        self.assertEqual(cut_uses(four, [1, 3]), [four[:1], four[1:3], four[3:]])
        self.assertEqual(cut_uses(four, [0]), [(), four])
        self.assertEqual(cut_uses(four, [4]), [four, ()])
        self.assertEqual(cut_uses(four, [0, 4]), [(), four, ()])
        self.assertEqual(cut_uses(four, [2, 2]), [four[:2], (), four[2:]])
        self.assertEqual(cut_uses(four, [0, 0, 2, 2, 2, 4, 4]), [(), (), four[:2], (), (), four[2:], (), ()])

    def test_no_cuts(self):
        for many in (0, 1, 2, 20):
            self.assertEqual(cut_uses(use_rows(many), []), [use_rows(many)])

    def test_uses_of_no_row(self):
        for many in range(4):
            self.assertEqual(cut_uses((), [0] * many), [()] * (many + 1))
        for cut in (-GREAT, -1, 1, 2, GREAT):
            self.assert_bad_cut(cut_uses, (), [cut])

    def test_every_list_of_few_numbers(self):
        for many in range(4):
            for length in range(4):
                for numbers in itertools.product(range(-2, many + 3), repeat=length):
                    cuts = list(numbers)
                    if cuts == sorted(cuts) and all(0 <= cut <= many for cut in cuts):
                        pieces = cut_uses(use_rows(many), cuts)
                        ends = zip([0] + cuts, cuts + [many])
                        self.assertEqual(pieces, [use_rows(many)[begin:end] for begin, end in ends])
                        self.assertEqual(sum(pieces, ()), use_rows(many))
                    else:
                        self.assert_bad_cut(cut_uses, use_rows(many), cuts)

    def test_wrong_cuts(self):
        for cuts in (
            [-1], [-MANY], [MANY + 1], [MANY + 2], [GREAT], [-GREAT], [2, 1], [1, 2, 0], [0, -1], [MANY, 0],
            [MANY, MANY + 1], [3, 3, 2],
        ):
            self.assert_bad_cut(cut_uses, USES, cuts)

    def test_what_is_no_list_of_whole_numbers(self):
        for cuts in ([True], [False], ["1"], [None], [0, None]):
            self.assert_bad_cut(cut_uses, USES, cuts)
        for cuts in (None, "", "1", 1, {}):
            self.assertRaises(BadCut, cut_uses, USES, cuts)

    def test_kinds(self):
        for table, cuts in (((), []), ((), [0]), (USES, [1, 1, 4])):
            pieces = cut_uses(table, cuts)
            self.assertIs(type(pieces), list)
            self.assertEqual({type(piece) for piece in pieces}, {tuple})

    def test_many_rows(self):
        uses = tables_of(DOWNWARD, DOWNWARD_BOXES, 2000)[1]
        cuts = list(range(len(uses) + 1))
        pieces = cut_uses(uses, cuts)
        self.assertEqual(pieces, [()] + [(row,) for row in uses] + [()])


class StepsLookedAt(unittest.TestCase):
    def test_no_row_and_one(self):
        self.assertIsNone(steps_fault(THREE_CELLS, ()))
        for row in (STEPS[0], STEPS[LAST], (-1, NOUGHTS), (GREAT, BOXES)):
            self.assertIsNone(steps_fault(THREE_CELLS, (row,)))

    def test_parts_of_a_run_fit_wherever_they_begin(self):
        for begin, end in itertools.combinations(range(len(STEPS) + 1), 2):
            self.assertIsNone(steps_fault(THREE_CELLS, STEPS[begin:end]))

    def test_neither_the_begin_nor_the_end_is_looked_at(self):
        self.assertIsNone(steps_fault(COUNTDOWN, ((2, BOXES), (3, with_box(BOXES, 0, -1)))))

    def test_a_fault_at_each_two_rows(self):
        for begin in range(LAST):
            piece = STEPS[begin:]
            for t in range(len(piece) - 1):
                place, boxes = piece[t + 1]
                self.assertEqual(steps_fault(THREE_CELLS, with_row(piece, t + 1, (place, with_box(boxes, 4, 70)))), t)
                self.assertEqual(steps_fault(THREE_CELLS, with_row(piece, t + 1, (place - 13, boxes))), t)

    def test_the_first_of_several(self):
        piece = with_row(with_row(STEPS, 9, (0, NOUGHTS)), 4, (0, NOUGHTS))
        self.assertEqual(steps_fault(THREE_CELLS, piece), 3)
        self.assertEqual(steps_fault(THREE_CELLS, piece[5:]), 3)

    def test_a_row_behind_a_halt(self):
        self.assertEqual(steps_fault(THREE_CELLS, STEPS[LAST:] * 2), 0)
        self.assertEqual(steps_fault(THREE_CELLS, STEPS[LAST - 1:] + STEPS[LAST:]), 1)

    def test_any_value_behind_a_get(self):
        for value in (-1, 0, GREAT):
            piece = ((4, BOXES), (5, with_box(BOXES, 1, value)))
            self.assertIsNone(steps_fault(THREE_CELLS, piece))
            self.assertEqual(steps_fault(THREE_CELLS, ((4, BOXES), (5, with_box(BOXES, 2, value)))), 0)

    def test_kind(self):
        self.assertIs(type(steps_fault(THREE_CELLS, STEPS + STEPS)), int)


class UsesLookedAt(unittest.TestCase):
    def test_no_row(self):
        self.assertIsNone(uses_fault(None, ()))
        self.assertIsNone(uses_fault(USES[3], ()))

    def test_one_row(self):
        self.assertIsNone(uses_fault(None, ((3, 0, "set", 5),)))
        self.assertIsNone(uses_fault(None, ((3, 0, "get", 0),)))
        self.assertEqual(uses_fault(None, ((3, 0, "get", 5),)), 0)
        self.assertIsNone(uses_fault((3, -1, "set", 5), ((3, 0, "get", 5),)))
        self.assertEqual(uses_fault((3, -1, "set", 5), ((3, 0, "get", 0),)), 0)
        self.assertEqual(uses_fault((3, 0, "set", 5), ((3, 0, "get", 5),)), 0)
        self.assertEqual(uses_fault((4, 0, "set", 5), ((3, 1, "get", 0),)), 0)
        self.assertIsNone(uses_fault((2, 9, "set", 5), ((3, 0, "get", 0),)))

    def test_parts_of_uses_behind_the_row_ahead(self):
        for begin, end in itertools.combinations(range(MANY + 1), 2):
            self.assertIsNone(uses_fault(USES[begin - 1] if begin else None, USES[begin:end]))

    def test_parts_behind_nothing(self):
        self.assertEqual(uses_fault(None, USES[1:]), 0)
        self.assertIsNone(uses_fault(None, USES[2:]))
        self.assertIsNone(uses_fault(None, USES[4:]))

    def test_a_fault_at_each_row(self):
        for begin in range(1, MANY):
            piece = USES[begin:]
            for k, row in enumerate(piece):
                lesser = with_row(piece, k, with_value(row, 0, -GREAT))
                self.assertEqual(uses_fault(USES[begin - 1], lesser), k)
                twice = piece[:k + 1] + piece[k:]
                self.assertEqual(uses_fault(USES[begin - 1], twice), k + 1)

    def test_the_first_of_several(self):
        piece = with_row(with_row(USES, 3, with_value(USES[3], 3, 1)), 6, with_value(USES[6], 0, -9))
        self.assertEqual(uses_fault(None, piece), 3)
        self.assertEqual(uses_fault(USES[3], piece[4:]), 2)

    def test_kind(self):
        self.assertIs(type(uses_fault(None, USES + USES)), int)


class Joined(unittest.TestCase):
    def assert_bad_cut(self, pieces):
        copy = list(pieces)
        with self.assertRaises(BadCut):
            joined_steps(pieces)
        self.assertEqual(pieces, copy)

    def test_what_is_cut_is_joined(self):
        for many in range(1, 8):
            for cuts in rising(1, many - 2):
                self.assertEqual(joined_steps(cut_steps(rows(many), cuts)), rows(many))
        for cut in range(1, LAST):
            self.assertEqual(joined_steps(cut_steps(STEPS, [cut])), STEPS)

    def test_steps_of_no_row_are_not_joined_again(self):
        self.assert_bad_cut(cut_steps((), []))

    def test_no_pieces(self):
        self.assert_bad_cut([])

    def test_a_piece_without_rows(self):
        pieces = cut_steps(STEPS, [3, 7])
        self.assert_bad_cut([()])
        for at in range(4):
            self.assert_bad_cut(pieces[:at] + [()] + pieces[at:])
        for at in range(3):
            self.assert_bad_cut(pieces[:at] + [()] + pieces[at + 1:])

    def test_a_first_row_that_is_another(self):
        self.assert_bad_cut([STEPS[:4], STEPS[4:]])
        self.assert_bad_cut([STEPS[:4], STEPS[2:]])
        self.assert_bad_cut([STEPS[:4], STEPS[3:8], STEPS[8:]])
        self.assert_bad_cut([STEPS[3:], STEPS[:4]])
        self.assert_bad_cut([STEPS[:1], STEPS[1:2]])
        place, boxes = STEPS[3]
        self.assert_bad_cut([STEPS[:4], ((place + 1, boxes),) + STEPS[4:]])
        for box in range(8):
            self.assert_bad_cut([STEPS[:4], ((place, with_box(boxes, box, 70)),) + STEPS[4:]])
        pieces = cut_steps(STEPS, [3, 7])
        self.assert_bad_cut([pieces[0], pieces[2], pieces[1]])
        self.assert_bad_cut([pieces[0], pieces[2]])

    def test_pieces_of_one_row(self):
        self.assertEqual(joined_steps([STEPS[:1]]), STEPS[:1])
        self.assertEqual(joined_steps([STEPS[:1]] * 3 + [STEPS]), STEPS)
        self.assertEqual(joined_steps([STEPS, STEPS[LAST:], STEPS[LAST:]]), STEPS)
        self.assertEqual(joined_steps([STEPS[:4], STEPS[3:4], STEPS[3:]]), STEPS)

    def test_pieces_that_do_not_fit_a_roll(self):
        wild = ((-1, BOXES), (GREAT, NOUGHTS))
        self.assertEqual(joined_steps([wild, wild[1:] + wild]), wild + wild)

    def test_kinds(self):
        for pieces in ([STEPS], cut_steps(STEPS, [2]), [STEPS[:1]]):
            joined = joined_steps(pieces)
            self.assertIs(type(joined), tuple)
            self.assertEqual({type(row) for row in joined}, {tuple})

    def test_two_thousand_and_one_rows(self):
        steps = tables_of(DOWNWARD, DOWNWARD_BOXES, 2000)[0]
        self.assertEqual(joined_steps(cut_steps(steps, list(range(1, 2000)))), steps)
        self.assertEqual(joined_steps([steps]), steps)


def fits_in_pieces(roll, steps, uses, step_cuts, use_cuts):
    """Whether each piece fits, each piece of uses behind the last row of all that stand ahead of it."""
    ahead = None
    for piece in cut_uses(uses, use_cuts):
        if uses_fault(ahead, piece) is not None:
            return False
        ahead = piece[-1] if piece else ahead
    return all(steps_fault(roll, piece) is None for piece in cut_steps(steps, step_cuts))


class PieceByPiece(unittest.TestCase):
    def test_wherever_they_are_cut(self):
        numbers = chance(7)
        answers = []
        for roll, boxes in (ENDING + ENDLESS) * 40:
            steps, uses = tables_of(roll, boxes, 30)
            if numbers.randrange(2) and len(steps) > 2:
                at = numbers.randrange(len(steps))
                steps = numbers.choice((without_row(steps, at), with_row(steps, at, (0, NOUGHTS)), steps))
            if numbers.randrange(2) and uses:
                at = numbers.randrange(len(uses))
                uses = numbers.choice((without_row(uses, at), uses[:at] + uses[at - 1:], uses))
            whole = steps_fault(roll, steps) is None and uses_fault(None, uses) is None
            answers.append(whole)
            for _ in range(5):
                inner = range(1, len(steps) - 1)
                step_cuts = sorted(numbers.sample(inner, numbers.randrange(len(inner) + 1)))
                use_cuts = sorted(numbers.randrange(len(uses) + 1) for _ in range(numbers.randrange(6)))
                self.assertIs(fits_in_pieces(roll, steps, uses, step_cuts, use_cuts), whole)
        self.assertGreater(min(answers.count(True), answers.count(False)), 50)

    def test_what_fits_as_a_whole_fits_in_pieces(self):
        for roll, boxes in ENDING:
            steps, uses = tables_of(roll, boxes)
            self.assertIsNone(fault(roll, boxes, steps, uses))
            step_cuts = list(range(1, len(steps) - 1))
            self.assertTrue(fits_in_pieces(roll, steps, uses, step_cuts, list(range(len(uses) + 1))))

    def test_the_fault_of_a_whole_is_found_in_its_piece(self):
        steps, uses = tables_of(ALL_ROWS, NOUGHTS)
        for t in range(len(steps) - 1):
            wrong = with_row(steps, t + 1, (steps[t + 1][0], with_box(steps[t + 1][1], 7, 5)))
            self.assertEqual(fault(ALL_ROWS, NOUGHTS, wrong, uses), ("step", t))
            found = [steps_fault(ALL_ROWS, piece) for piece in cut_steps(wrong, [5, 6, 20])]
            begins = [0, 5, 6, 20]
            told = [begin + at for begin, at in zip(begins, found) if at is not None]
            self.assertEqual(told[0], t)


class Kept(unittest.TestCase):
    def test_lists_handed_in_and_told(self):
        cuts = [2, 5]
        steps_pieces = cut_steps(STEPS, cuts)
        uses_pieces = cut_uses(USES, cuts)
        joined = joined_steps(steps_pieces)
        self.assertEqual(cuts, [2, 5])
        self.assertEqual(steps_pieces, [STEPS[:3], STEPS[2:6], STEPS[5:]])
        cuts.clear()
        self.assertEqual(steps_pieces, [STEPS[:3], STEPS[2:6], STEPS[5:]])
        self.assertEqual(uses_pieces, [USES[:2], USES[2:5], USES[5:]])
        steps_pieces.clear()
        uses_pieces.append(())
        self.assertEqual(joined, STEPS)
        self.assertEqual(cut_steps(STEPS, [2, 5]), [STEPS[:3], STEPS[2:6], STEPS[5:]])
        self.assertEqual(cut_uses(USES, [2, 5]), [USES[:2], USES[2:5], USES[5:]])


class Interface(unittest.TestCase):
    def test_names_and_arguments(self):
        for function, told_arguments in (
            (cut_steps, "(steps, cuts)"),
            (cut_uses, "(uses, cuts)"),
            (steps_fault, "(roll, piece)"),
            (uses_fault, "(ahead, piece)"),
            (joined_steps, "(pieces)"),
        ):
            self.assertEqual(arguments(function), told_arguments)

    def test_arguments_by_name(self):
        self.assertEqual(cut_steps(steps=STEPS, cuts=[]), [STEPS])
        self.assertEqual(cut_uses(uses=USES, cuts=[]), [USES])
        self.assertIsNone(steps_fault(roll=THREE_CELLS, piece=STEPS))
        self.assertIsNone(uses_fault(ahead=None, piece=USES))
        self.assertEqual(joined_steps(pieces=[STEPS]), STEPS)


if __name__ == "__main__":
    unittest.main()
