import unittest

from programs import (
    CELLS, COUNT, EVERY_PROGRAM, FOREVER, LEFT_LONG, RIGHT_SEVEN, RIGHT_SIX, SQUARE, plain_meaning, some_given,
    some_program,
)
from samples import GREAT, arguments, chance
from stepledger.errors import BadGiven, Spent
from stepledger.meaning import meaning
from stepledger.texts import read


class Meanings(unittest.TestCase):
    def assert_means(self, text, given, numbers, steps):
        program = read(text)
        found = meaning(program, given, steps)
        self.assertEqual(found, (numbers, steps), text)
        self.assertIs(type(found), tuple)
        self.assertIs(type(found[0]), list)
        self.assertEqual({type(number) for number in found[0]} | {int}, {int})
        self.assertIs(type(found[1]), int)
        self.assertEqual(meaning(program, given, 2000), found)
        if steps > 0:
            self.assert_spent(text, given, steps - 1)
            self.assert_spent(text, given, 0)

    def assert_spent(self, text, given, most):
        with self.assertRaises(Spent, msg=text):
            meaning(read(text), given, most)

    def assert_bad_given(self, text, given, *most):
        with self.assertRaises(BadGiven, msg=text):
            meaning(read(text), given, *most)


class Sums(Meanings):
    def test_the_names_arguments_and_kinds(self):
        self.assertEqual(arguments(meaning), "(program, given, most=400)")

    def test_a_number(self):
        for number in (0, 1, -1, 12, GREAT, -GREAT):
            self.assert_means(f"tell {number}", (), [number], 2)

    def test_a_name(self):
        self.assert_means("tell a", (), [0], 3)
        for number in (0, 5, -5, GREAT):
            self.assert_means("take a\ntell a", (number,), [number], 5)

    def test_add(self):
        self.assert_means("tell add 3 4", (), [7], 4)
        self.assert_means("tell add -3 a", (), [-3], 5)
        self.assert_means(f"tell add {GREAT} {GREAT}", (), [2 * GREAT], 4)

    def test_sub(self):
        self.assert_means("tell sub 3 4", (), [-1], 4)
        self.assert_means("tell sub 4 3", (), [1], 4)
        self.assert_means("take a b\ntell sub a b", (5, 8), [-3], 10)

    def test_more(self):
        for one, other, found in ((3, 4, 0), (4, 3, 1), (4, 4, 0), (-1, -2, 1), (-2, -1, 0), (0, 0, 0), (0, -1, 1)):
            self.assert_means(f"tell more {one} {other}", (), [found], 4)

    def test_cell(self):
        self.assert_means("tell cell 3", (), [0], 4)
        self.assert_means("put 3 8\ntell cell 3", (), [8], 8)
        self.assert_means("put 3 8\ntell cell cell 3", (), [0], 10)
        self.assert_means("put 3 8\nput 8 9\ntell cell cell 3", (), [9], 14)

    def test_sums_within_sums(self):
        self.assert_means("tell sub add 1 2 sub 3 add 4 5", (), [9], 10)
        self.assert_means("tell sub sub 1 2 3", (), [-4], 6)
        self.assert_means("tell sub 1 sub 2 3", (), [2], 6)
        self.assert_means("take a\ntell add a cell sub a 4", (4,), [4], 2 + 2 + 2 + 1 + 1 + 2 + 1 + 1)
        self.assert_means("tell " + RIGHT_SIX, (), [1 + 2 - (3 > 4 + 5 - 6)], 12)
        self.assert_means("tell " + LEFT_LONG, (), [1], 16)

    def test_sixty_words(self):
        self.assert_means("tell " + "add " * 29 + "1" + " 1" * 29, (), [30], 60)
        self.assert_means("tell" + " cell" * 58 + " 1", (), [0], 118)


class Deeds(Meanings):
    def test_no_deeds(self):
        self.assert_means("", (), [], 0)
        self.assert_means("take a", (7,), [], 2)
        self.assert_means("take a b c d e f", (1, 2, 3, 4, 5, 6), [], 12)

    def test_names_taken(self):
        self.assert_means("take b a\ntell a\ntell b\ntell c", (1, 2), [2, 1, 0], 13)
        self.assert_means(
            "take a b c d e f\ntell f\ntell e\ntell d\ntell c\ntell b\ntell a", (1, 2, 3, 4, 5, 6),
            [6, 5, 4, 3, 2, 1], 30,
        )

    def test_set(self):
        self.assert_means("set a 5", (), [], 3)
        self.assert_means("set a 5\ntell a", (), [5], 6)
        self.assert_means("set a 5\nset a 6\ntell a", (), [6], 9)
        self.assert_means("set a add a 1\nset a add a 1\ntell a", (), [2], 15)
        self.assert_means("take a\nset b a\nset a 0\ntell b\ntell a", (9,), [9, 0], 15)

    def test_put(self):
        self.assert_means("put 5 6", (), [], 4)
        self.assert_means("put 5 6\ntell cell 5\ntell cell 6", (), [6, 0], 12)
        self.assert_means("put 5 6\nput 5 7\ntell cell 5", (), [7], 12)
        self.assert_means("put 5 6\nput 5 0\ntell cell 5", (), [0], 12)
        self.assert_means("put add 2 3 sub 9 3\ntell cell 5", (), [6], 12)

    def test_both_sums_of_a_put_are_worked_ahead_of_it(self):
        self.assert_means("put 1 5\nput cell 1 cell 1\ntell cell 5\ntell cell 1", (), [5, 5], 20)
        self.assert_means("put 1 5\nput 1 add cell 1 1\ntell cell 1", (), [6], 4 + 8 + 4)

    def test_cells_below_nought(self):
        self.assert_means("put -5 6\ntell cell -5\ntell cell 5", (), [6, 0], 12)
        self.assert_means("put sub 0 2 3\nput -1 4\ntell cell -2\ntell cell -1", (), [3, 4], 18)
        self.assert_means("put 0 3\ntell cell 0\ntell cell sub 1 1", (), [3, 3], 14)

    def test_cells_of_great_numbers(self):
        self.assert_means(f"put {GREAT} 6\nput -{GREAT} 7\ntell cell {GREAT}\ntell cell -{GREAT}", (), [6, 7], 16)

    def test_names_and_cells_are_apart(self):
        numbers = range(-6, 7)
        puts = "\n".join(f"put {n} {n + 100}" for n in numbers)
        tells = "\n".join(f"tell cell {n}" for n in numbers)
        self.assert_means(
            f"take a b\n{puts}\nset c 3\n{tells}\ntell a\ntell b\ntell c", (1, 2),
            [n + 100 for n in numbers] + [1, 2, 3], 4 + 13 * 4 + 3 + 13 * 4 + 9,
        )

    def test_a_name_is_not_called_like_another(self):
        text = "set a 1\nset aa 2\nset cells 3\ntell a\ntell aa\ntell cells\ntell cell 3"
        self.assert_means(text, (), [1, 2, 3, 0], 22)

    def test_when(self):
        for number, told, steps in ((1, 5, 4), (2, 5, 4), (GREAT, 5, 4), (0, 6, 5), (-1, 6, 5), (-GREAT, 6, 5)):
            self.assert_means(f"when {number}\ntell 5\nelse\ntell 6\nend", (), [told], steps)

    def test_when_without_deeds(self):
        self.assert_means("when 1\nelse\nend", (), [], 2)
        self.assert_means("when 0\nelse\nend", (), [], 3)
        self.assert_means("when 1\nelse\ntell 1\nend\ntell 2", (), [2], 4)
        self.assert_means("when 0\ntell 1\nelse\nend\ntell 2", (), [2], 5)

    def test_while_never_once_and_more_often(self):
        for number, times in ((0, 0), (-1, 0), (1, 1), (2, 2), (7, 7)):
            told = list(range(number, 0, -1))
            self.assert_means("take a\nwhile a\ntell a\nset a sub a 1\nend", (number,), told, 2 + 13 * times + 4)

    def test_while_without_deeds(self):
        self.assert_means("while 0\nend", (), [], 3)
        self.assert_means("while -1\nend\ntell 1", (), [1], 5)
        for most in (0, 1, 2, 3, 100, 2000):
            self.assert_spent(FOREVER, (), most)
            self.assert_spent("while 1\ntell 1\nset a add a a\nend", (), most)

    def test_a_while_s_sum_is_worked_each_time(self):
        self.assert_means("while sub 2 cell 7\nput 7 add cell 7 1\nend\ntell cell 7", (), [2], 41)

    def test_blocks_within_blocks(self):
        self.assert_means(
            "take n\nwhile n\nset m n\nwhile m\nwhen more m 1\ntell m\nelse\ntell add n 10\nend\nset m sub m 1\nend\n"
            "set n sub n 1\nend", (3,), [3, 2, 13, 2, 12, 11], 177,
        )

    def test_whole_programs(self):
        self.assert_means(COUNT, (), list(range(10)), 156)
        self.assert_means(SQUARE, (5,), [25], 98)
        self.assert_means(SQUARE, (0,), [0], 13)
        self.assert_means(CELLS, (), [7, 30, 30, 0], 32)
        self.assertEqual(meaning(EVERY_PROGRAM, (4, 1))[0], [-4, -3, -2, -1, -7])
        self.assertEqual(meaning(EVERY_PROGRAM, (4, 5))[0], [-4, -7])


class Bounds(Meanings):
    def test_four_hundred_without_a_bound(self):
        just = "tell 1\n" * 200
        self.assertEqual(meaning(read(just), ()), ([1] * 200, 400))
        for text in (just + "tell 1", just + "while 0\nend", just + "when 1\nelse\nend", "take a\n" + just):
            with self.assertRaises(Spent):
                meaning(read(text), (1,) if text.startswith("take") else ())
        with self.assertRaises(Spent):
            meaning(read(FOREVER), ())

    def test_the_bound_by_its_name(self):
        program = read("tell 1")
        self.assertEqual(meaning(program, (), most=2), ([1], 2))
        self.assertEqual(meaning(program=program, given=(), most=2), ([1], 2))
        with self.assertRaises(Spent):
            meaning(program, (), most=1)

    def test_the_bound_nought(self):
        self.assertEqual(meaning(((), ()), (), 0), ([], 0))
        self.assert_spent("tell 1", (), 0)
        self.assert_spent("take a", (1,), 0)
        self.assert_spent("take a", (1,), 1)

    def test_two_thousand(self):
        # Each time through takes 10 steps, the last one 4, and 6 are ahead of them.
        text = "take a\nset left a\nwhile left\nset left sub left 1\nend"
        self.assert_means(text, (198,), [], 1990)
        self.assert_means(text, (199,), [], 2000)
        self.assert_spent(text, (200,), 2000)

    def test_numbers_as_great_as_they_need(self):
        text = "take a n\nwhile n\nset a add a a\nset n sub n 1\nend\ntell a"
        self.assertEqual(meaning(read(text), (GREAT, 100), 2000)[0], [GREAT * 2 ** 100])

    def test_givens_more_or_less_than_the_names_taken(self):
        for many in range(7):
            text = ("take " + " ".join("abcdef"[:many]) if many else "") + "\ntell 1"
            self.assertEqual(meaning(read(text), (3,) * many), ([1], 2 * many + 2))
            for other in range(9):
                if other != many:
                    self.assert_bad_given(text, (3,) * other)
                    self.assert_bad_given(text, (3,) * other, 0)
                    self.assert_bad_given(text, (3,) * other, 2000)

    def test_bad_givens_are_told_ahead_of_spent(self):
        self.assert_bad_given(FOREVER, (1,))
        self.assert_bad_given(FOREVER, (1,), 0)
        self.assert_bad_given("take a\n" + FOREVER, ())
        self.assert_bad_given("take a\n" + FOREVER, (1, 2), 0)
        self.assert_spent("take a\n" + FOREVER, (1,), 2000)


class Owned(unittest.TestCase):
    def test_what_is_told_is_the_asker_s_own(self):
        program = read("take a\ntell a\ntell 2")
        one = meaning(program, (1,))
        other = meaning(program, (1,))
        one[0].append(9)
        self.assertEqual(other, ([1, 2], 7))
        self.assertEqual(meaning(program, (1,)), ([1, 2], 7))

    def test_nothing_is_kept_from_one_call_to_the_next(self):
        program = read("tell a\ntell cell 1\nset a 5\nput 1 6")
        self.assertEqual([meaning(program, ())[0] for _ in range(3)], [[0, 0]] * 3)
        with self.assertRaises(Spent):
            meaning(program, (), 13)
        self.assertEqual(meaning(program, (), 14), ([0, 0], 14))

    def test_what_is_handed_in_stays(self):
        given = [3, 4]
        program = read("take a b\nset a 9\ntell add a b")
        meaning(program, given)
        self.assertEqual(given, [3, 4])
        self.assertEqual(program, read("take a b\nset a 9\ntell add a b"))


class Chance(unittest.TestCase):
    def test_programs_by_chance(self):
        source = chance(22)
        spent = 0
        for _ in range(1500):
            program = some_program(source)
            given = some_given(source, program)
            most = source.choice((0, 20, 60, 400))
            found = plain_meaning(program, given, most)
            if found is None:
                spent += 1
                with self.assertRaises(Spent):
                    meaning(program, given, most)
            else:
                self.assertEqual(meaning(program, given, most), found)
                self.assertEqual(meaning(program, given, found[1]), found)
        self.assertGreater(spent, 200)
        self.assertLess(spent, 1200)

    def test_somewhat_beyond_the_bounds(self):
        deep = tuple(int(word) if word.isdigit() else word for word in RIGHT_SEVEN.split(" "))
        self.assertEqual(meaning(((), (("tell", deep),)), ()), ([1 + 2 - int(3 > 4 + 5 - 0)], 14))
        self.assertEqual(meaning(((), (("tell", ("cell",) * 80 + (1,)),)), ()), ([0], 162))
        nested = ()
        for _ in range(20):
            nested = (("when", (1,), nested, ()),)
        self.assertEqual(meaning(((), nested), ()), ([], 40))
        self.assertEqual(meaning((tuple("abcdefg"), (("tell", ("g",)),)), (1, 2, 3, 4, 5, 6, 7)), ([7], 17))


if __name__ == "__main__":
    unittest.main()
