import unittest

from programs import (
    EVERY_PROGRAM, LEFT_LONG, PLAIN_GIVENS, PLAIN_TEXTS, RIGHT_FIVE, RIGHT_SIX, plain_roll, some_given, some_program,
)
from samples import GREAT, arguments, chance
from stepledger.errors import BadGiven, Spent
from stepledger.machine import ended, run, told
from stepledger.making import boxes_of, roll_of
from stepledger.meaning import meaning
from stepledger.rolls import read_roll, shown_roll
from stepledger.texts import names_of, read


class Rolls(unittest.TestCase):
    def assert_roll(self, text, rows):
        """The rows' texts, parted by commas."""
        found = roll_of(read(text))
        self.assertEqual(shown_roll(found).split("\n"), [row.strip() for row in rows.split(",")], text)
        self.assertEqual(found, read_roll(shown_roll(found)))
        self.assertIs(type(found), tuple)
        self.assertEqual({type(row) for row in found}, {tuple})
        self.assertEqual({type(word) for row in found for word in row} | {int}, {str, int})


class Sums(Rolls):
    def test_the_names_arguments_and_kinds(self):
        self.assertEqual(arguments(roll_of), "(program)")
        self.assertEqual(arguments(boxes_of), "(program, given)")

    def test_a_number(self):
        self.assert_roll("tell 5", "put 0 5, tell 0, halt")
        self.assert_roll("tell -5", "put 0 -5, tell 0, halt")
        self.assert_roll(f"tell {GREAT}", f"put 0 {GREAT}, tell 0, halt")

    def test_a_name(self):
        self.assert_roll("tell a", "put 7 1, get 0 7, tell 0, halt")
        self.assert_roll("tell a\ntell b\ntell a", """put 7 1, get 0 7, tell 0, put 7 3, get 0 7, tell 0,
            put 7 1, get 0 7, tell 0, halt""")

    def test_add_sub_and_more(self):
        for word in ("add", "sub", "more"):
            self.assert_roll(f"tell {word} 3 4", f"put 0 3, put 1 4, {word} 0 0 1, tell 0, halt")
            self.assert_roll(f"tell {word} b a", f"put 7 1, get 0 7, put 7 3, get 1 7, {word} 0 0 1, tell 0, halt")

    def test_cell(self):
        self.assert_roll("tell cell 3", "put 0 3, add 0 0 0, get 0 0, tell 0, halt")
        self.assert_roll("tell cell cell a", """put 7 1, get 0 7, add 0 0 0, get 0 0, add 0 0 0, get 0 0, tell 0,
            halt""")
        self.assert_roll("tell add 1 cell a", "put 0 1, put 7 1, get 1 7, add 1 1 1, get 1 1, add 0 0 1, tell 0, halt")

    def test_sums_within_sums(self):
        self.assert_roll("tell add sub 1 2 more 3 4", """put 0 1, put 1 2, sub 0 0 1, put 1 3, put 2 4, more 1 1 2,
            add 0 0 1, tell 0, halt""")
        self.assert_roll("tell cell sub 9 cell a", """put 0 9, put 7 1, get 1 7, add 1 1 1, get 1 1, sub 0 0 1,
            add 0 0 0, get 0 0, tell 0, halt""")

    def test_depth_six(self):
        self.assert_roll("tell " + RIGHT_SIX, """put 0 1, put 1 2, put 2 3, put 3 4, put 4 5, put 5 6, sub 4 4 5,
            add 3 3 4, more 2 2 3, sub 1 1 2, add 0 0 1, tell 0, halt""")
        self.assert_roll("tell add 1 add 1 add 1 add 1 add 1 a", """put 0 1, put 1 1, put 2 1, put 3 1, put 4 1,
            put 7 1, get 5 7, add 4 4 5, add 3 3 4, add 2 2 3, add 1 1 2, add 0 0 1, tell 0, halt""")

    def test_leaning_to_the_left(self):
        self.assert_roll("tell " + LEFT_LONG, """put 0 1, put 1 2, add 0 0 1, put 1 3, more 0 0 1, put 1 4, sub 0 0 1,
            put 1 5, add 0 0 1, put 1 6, more 0 0 1, put 1 7, sub 0 0 1, put 1 8, add 0 0 1, tell 0, halt""")


class Deeds(Rolls):
    def test_no_deeds(self):
        self.assert_roll("", "halt")

    def test_names_taken(self):
        self.assert_roll("take a", "put 7 1, set 7 0, halt")
        self.assert_roll("take a b c d e f", """put 7 1, set 7 0, put 7 3, set 7 1, put 7 5, set 7 2, put 7 7, set 7 3,
            put 7 9, set 7 4, put 7 11, set 7 5, halt""")
        self.assert_roll("take b a\ntell a\ntell b", """put 7 1, set 7 0, put 7 3, set 7 1, put 7 3, get 0 7, tell 0,
            put 7 1, get 0 7, tell 0, halt""")

    def test_the_names_cells_by_their_order(self):
        self.assert_roll("take z\nset c b\nset a z", """put 7 1, set 7 0, put 7 5, get 0 7, put 7 3, set 7 0,
            put 7 1, get 0 7, put 7 7, set 7 0, halt""")
        self.assert_roll("put c a\ntell b", """put 7 1, get 0 7, add 0 0 0, put 7 3, get 1 7, set 0 1, put 7 5, get 0 7,
            tell 0, halt""")

    def test_set(self):
        self.assert_roll("set a 5", "put 0 5, put 7 1, set 7 0, halt")
        self.assert_roll("set a add a b", """put 7 1, get 0 7, put 7 3, get 1 7, add 0 0 1, put 7 1, set 7 0, halt""")

    def test_put(self):
        self.assert_roll("put 5 6", "put 0 5, add 0 0 0, put 1 6, set 0 1, halt")
        self.assert_roll("put add 1 2 sub 3 4", """put 0 1, put 1 2, add 0 0 1, add 0 0 0, put 1 3, put 2 4, sub 1 1 2,
            set 0 1, halt""")
        self.assert_roll("put cell 1 cell 2", """put 0 1, add 0 0 0, get 0 0, add 0 0 0, put 1 2, add 1 1 1, get 1 1,
            set 0 1, halt""")
        self.assert_roll("put 9 " + RIGHT_FIVE, """put 0 9, add 0 0 0, put 1 1, put 2 2, put 3 3, put 4 4, put 5 5,
            add 4 4 5, more 3 3 4, sub 2 2 3, add 1 1 2, set 0 1, halt""")

    def test_when(self):
        self.assert_roll("when 1\ntell 2\nelse\ntell 3\nend", """put 0 1, when 0 5, put 0 3, tell 0, jump 7, put 0 2,
            tell 0, halt""")
        self.assert_roll("when 1\nelse\nend", "put 0 1, when 0 3, jump 3, halt")
        self.assert_roll("when a\ntell 2\nelse\nend\ntell 4", """put 7 1, get 0 7, when 0 4, jump 6, put 0 2, tell 0,
            put 0 4, tell 0, halt""")
        self.assert_roll("tell 9\nwhen 1\nelse\ntell 3\nend", """put 0 9, tell 0, put 0 1, when 0 7, put 0 3, tell 0,
            jump 7, halt""")

    def test_while(self):
        self.assert_roll("while 1\nend", "put 0 1, when 0 3, jump 4, jump 0, halt")
        self.assert_roll("while a\ntell 2\nend", "put 7 1, get 0 7, when 0 4, jump 7, put 0 2, tell 0, jump 0, halt")
        self.assert_roll("tell 9\nwhile 1\ntell 2\nend\ntell 3", """put 0 9, tell 0, put 0 1, when 0 5, jump 8, put 0 2,
            tell 0, jump 2, put 0 3, tell 0, halt""")

    def test_blocks_within_blocks(self):
        self.assert_roll("while 1\nwhile 2\nend\nend", """put 0 1, when 0 3, jump 8, put 0 2, when 0 6, jump 7, jump 3,
            jump 0, halt""")
        self.assert_roll(
            "take a\nwhile a\nwhen more a 1\nwhile 5\ntell 6\nend\n"
            "else\nwhen 7\nelse\ntell 8\nend\ntell 9\nend\nend\ntell 10",
            """put 7 1, set 7 0,
            put 7 1, get 0 7, when 0 6, jump 26,
            put 7 1, get 0 7, put 1 1, more 0 0 1, when 0 19,
            put 0 7, when 0 16, put 0 8, tell 0, jump 16,
            put 0 9, tell 0, jump 25,
            put 0 5, when 0 22, jump 25, put 0 6, tell 0, jump 19, jump 2,
            put 0 10, tell 0, halt""",
        )

    def test_a_whole_program(self):
        self.assertEqual(roll_of(EVERY_PROGRAM), plain_roll(EVERY_PROGRAM))
        self.assertEqual(names_of(EVERY_PROGRAM), ("n", "step", "i"))

    def test_programs_by_chance(self):
        source = chance(24)
        for _ in range(1000):
            program = some_program(source)
            roll = roll_of(program)
            self.assertEqual(roll, plain_roll(program))
            self.assertEqual(read_roll(shown_roll(roll)), roll)

    def test_more_rows_than_four_hundred(self):
        self.assertEqual(roll_of(read("tell 1\n" * 500)), (("put", 0, 1), ("tell", 0)) * 500 + (("halt",),))

    def test_somewhat_beyond_the_bounds(self):
        program = ((), (("tell", ("cell",) * 80 + (1,)), ("set", "abcdefghijk", (int("7" * 70),))))
        self.assertEqual(roll_of(program), plain_roll(program))
        nested = ()
        for _ in range(20):
            nested = (("when", (1,), (("while", (0,), nested),), ()),)
        self.assertEqual(roll_of(((), nested)), plain_roll(((), nested)))


class Boxes(unittest.TestCase):
    def test_none_to_six_givens(self):
        for many in range(7):
            program = (tuple("abcdef"[:many]), ())
            given = tuple(range(11, 11 + many))
            found = boxes_of(program, given)
            self.assertEqual(found, given + (0,) * (8 - many))
            self.assertIs(type(found), tuple)
            self.assertEqual(len(found), 8)

    def test_the_givens_as_they_are(self):
        self.assertEqual(boxes_of((("b", "a"), ()), (-GREAT, GREAT)), (-GREAT, GREAT, 0, 0, 0, 0, 0, 0))
        self.assertEqual(boxes_of((("a",), (("tell", ("b",)),)), (5,)), (5, 0, 0, 0, 0, 0, 0, 0))

    def test_more_or_less_than_the_names_taken(self):
        for many in range(7):
            program = (tuple("abcdef"[:many]), (("tell", ("other",)),))
            for other in range(10):
                if other != many:
                    with self.assertRaises(BadGiven):
                        boxes_of(program, (1,) * other)


class RunsAndMeanings(unittest.TestCase):
    def assert_alike(self, program, given, most=2000):
        roll = roll_of(program)
        boxes = boxes_of(program, given)
        try:
            numbers, steps = meaning(program, given, most)
        except Spent:
            states = run(roll, boxes, most)
            self.assertEqual(len(states), most + 1)
            self.assertFalse(ended(roll, states))
            return False
        states = run(roll, boxes, most)
        self.assertTrue(ended(roll, states))
        self.assertEqual((told(roll, states), len(states) - 1), (numbers, steps))
        # Just so many steps, and not one less.
        self.assertEqual(run(roll, boxes, steps), states)
        self.assertFalse(steps > 0 and ended(roll, run(roll, boxes, steps - 1)))
        return True

    def test_a_few_programs(self):
        for text, given in zip(PLAIN_TEXTS, PLAIN_GIVENS):
            self.assertTrue(self.assert_alike(read(text), given), text)

    def test_each_deed_and_sum_alone(self):
        for text in (
            "tell 1", "tell a", "tell add 1 2", "tell sub 1 2", "tell more 2 1", "tell more 1 2", "tell cell 1",
            "set a 1", "put 1 2", "put -1 2", "when 1\nelse\nend", "when 0\nelse\nend", "when -1\nelse\nend",
            "while 0\nend", "while -1\nend", "when 1\ntell 1\nelse\ntell 2\nend", "when 0\ntell 1\nelse\ntell 2\nend",
        ):
            self.assertTrue(self.assert_alike(read(text), ()), text)

    def test_names_and_cells_are_apart(self):
        numbers = range(-8, 9)
        puts = "\n".join(f"put {n} {n + 100}" for n in numbers)
        sets = "\n".join(f"set {name} {at + 50}" for at, name in enumerate("cdefgh"))
        tells = "\n".join([f"tell cell {n}" for n in numbers] + [f"tell {name}" for name in "abcdefgh"])
        for text in (f"take a b\n{puts}\n{sets}\n{tells}", f"take a b\n{sets}\n{puts}\n{tells}"):
            self.assertTrue(self.assert_alike(read(text), (5, 6)))

    def test_without_end(self):
        for most in (0, 1, 2, 3, 4, 100):
            self.assertFalse(self.assert_alike(read("while 1\nend"), (), most))

    def test_programs_by_chance(self):
        source = chance(25)
        ends = 0
        for _ in range(800):
            program = some_program(source)
            ends += self.assert_alike(program, some_given(source, program), source.choice((0, 10, 40, 150, 300)))
        self.assertGreater(ends, 300)
        self.assertLess(ends, 780)


if __name__ == "__main__":
    unittest.main()
