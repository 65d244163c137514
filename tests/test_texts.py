import itertools
import unittest

from programs import (
    EVERY_PROGRAM, EVERY_ROW, LEFT_LONG, PLAIN_TEXTS, RIGHT_FIVE, RIGHT_SEVEN, RIGHT_SIX, WORDS, plain_read,
    some_program,
)
from samples import GREAT, arguments, chance
from stepledger.errors import BadRow
from stepledger.texts import names_of, read, shown

SIGNS = [chr(code) for code in range(ord(" "), ord("~") + 1)]
LETTERS = "abcdefghijklmnopqrstuvwxyz"

# Texts whose second row is each kind of row, right, and the program that they are.
RIGHT_ROWS = {
    "take": ("\ntake a b c", (("a", "b", "c"), ())),
    "set": ("\nset a add b 1", ((), (("set", "a", ("add", "b", 1)),))),
    "put": ("\nput add a 1 cell b", ((), (("put", ("add", "a", 1), ("cell", "b")),))),
    "tell": ("\ntell more 1 a", ((), (("tell", ("more", 1, "a")),))),
    "when": ("\nwhen a\nelse\nend", ((), (("when", ("a",), (), ()),))),
    "else": ("when a\nelse\nend", ((), (("when", ("a",), (), ()),))),
    "while": ("\nwhile sub a 1\nend", ((), (("while", ("sub", "a", 1), ()),))),
    "end": ("while a\nend", ((), (("while", ("a",), ()),))),
}

NO_NAMES = (
    "aaaaaaaaa", "abcdefghi", "A", "Ab", "aB", "ABC", "a1", "1a", "a_b", "_", "a-b", "a.b", "a'", "a,", "-a", "+", "-",
    "--1", "1-", "0x1", "1e3", "1.0", "a\t", "\t", "\r",
)
NO_FIGURES = ("-0", "00", "01", "-01", "+1", "+0", "-", "--1", "1" * 61, "-" + "1" * 61, "1_000", "1.", "1,0")

# Rows whose sum, or sums, lack a word or have one left over.
BAD_SUMS = (
    "tell", "tell add", "tell add 1", "tell add a", "tell sub", "tell sub 1", "tell more", "tell more 1", "tell cell",
    "tell add add 1 2", "tell add 1 add 2", "tell add cell 1", "tell cell add 1", "tell cell cell", "tell sub 1 cell",
    "tell 1 2", "tell a b", "tell 1 add", "tell add 1 2 3", "tell sub a b c", "tell more 1 2 3", "tell cell 1 2",
    "tell add 1 2 add 3 4", "tell cell 1 cell 2", "set", "set a", "set a add", "set a add 1", "set a 1 2",
    "set a b c", "set a cell", "set a cell b c", "set a add b c d", "put", "put 1", "put a", "put add 1 2",
    "put cell 1", "put add 1", "put 1 add", "put 1 add 2", "put 1 2 3", "put a b c", "put add 1 2 3 4", "put 1 cell",
    "put cell 1 cell", "put cell cell 1", "put add 1 2 sub 3", "when", "when add 1", "when 1 2", "when cell",
    "when sub 1 2 3", "while", "while add 1", "while 1 2", "while cell", "while more 1 2 3", "else 1", "else a",
    "else else", "else end", "end 1", "end a", "end end", "end else",
)

# Words at a row's beginning that begin none.
NO_ROWS = (
    "halt", "get", "jump", "a", "A", "1", "-1", "0", "add 1 2", "sub 1 2", "more 1 2", "cell 1", "Tell 1", "TELL 1",
    "tells 1", "tel 1", "taken a", "sets a 1", "if 1", "a 1", "a set 1", "=", "#", "# tell 1", "tell\t1", "\ttell 1",
)


def row_told(text):
    """The row that is refused, or None."""
    try:
        read(text)
    except BadRow as error:
        return error.row
    return None


def tell_sum(words):
    """The one sum of a text that tells it."""
    program = read("tell " + words)
    (deed,) = program[1]
    return deed[1]


def within(heads, middle="tell 1"):
    """Blocks one within the other, and a row in the innermost one."""
    rows = [head + " 1" for head in heads] + [middle]
    for head in reversed(heads):
        rows += ["end"] if head == "while" else ["else", "end"]
    return "\n".join(rows)


def kinds(value):
    """A value's kind, and, of a tuple, those of all within it."""
    return (tuple, *map(kinds, value)) if isinstance(value, tuple) else type(value)


class Reading(unittest.TestCase):
    def assert_bad(self, text, row):
        self.assertEqual(row_told(text), row, text)

    def assert_bad_row(self, line):
        """Refused at its number, wherever it stands."""
        self.assert_bad(line, 1)
        self.assert_bad(f"tell 1\n{line}", 2)
        self.assert_bad(f"take a\n\n{line}\n", 3)
        self.assert_bad(f"while 1\n{line}\ntell 1\nend", 2)
        self.assert_bad(f"\n\nwhen 1\n{line}\nelse\nend", 4)
        self.assert_bad(f"when 1\nelse\ntell a\n{line}\nend\ntell", 4)


class Rows(Reading):
    def test_the_names_arguments_and_kinds(self):
        self.assertEqual(arguments(read), "(text)")
        self.assertEqual(arguments(shown), "(program)")
        self.assertEqual(arguments(names_of), "(program)")

    def test_each_row_right(self):
        for text, program in RIGHT_ROWS.values():
            self.assertEqual(read(text), program)
            self.assertEqual(kinds(read(text)), kinds(program))

    def test_all_rows_within_one_another(self):
        self.assertEqual(read(EVERY_ROW), EVERY_PROGRAM)
        self.assertEqual(kinds(read(EVERY_ROW)), kinds(EVERY_PROGRAM))

    def test_deeds_stand_in_their_order(self):
        self.assertEqual(
            read("tell 1\nset a 2\nput 3 4\nwhile 5\ntell 6\ntell 7\nend\nwhen 8\ntell 9\nelse\ntell 10\nend\ntell 11"),
            ((), (
                ("tell", (1,)), ("set", "a", (2,)), ("put", (3,), (4,)),
                ("while", (5,), (("tell", (6,)), ("tell", (7,)))),
                ("when", (8,), (("tell", (9,)),), (("tell", (10,)),)), ("tell", (11,)),
            )),
        )

    def test_each_row_with_a_word_lacking(self):
        for word, lines in (
            ("take", ("take", "a b c")),
            ("set", ("set", "set a", "set add b 1", "set a add b", "set a add 1", "a add b 1")),
            ("put", ("put", "put a", "put add a cell b", "put add a 1", "put cell b", "add a 1 cell b")),
            ("tell", ("tell", "tell more", "tell more 1", "tell more a", "tell 1 a", "more 1 a")),
            ("when", ("when", "a")),
            ("while", ("while", "while sub", "while sub a", "while sub 1", "while a 1", "sub a 1")),
            ("else", ("",)),
            ("end", ("",)),
        ):
            rows = RIGHT_ROWS[word][0].split("\n")
            for line in lines:
                text = "\n".join([rows[0], line] + rows[2:])
                # Where an else or an end lacks, the next row, or none, tells it.
                self.assert_bad(text, 3 if line == "" else 2)

    def test_each_row_with_a_word_more(self):
        for word, (text, _) in RIGHT_ROWS.items():
            for more in ("1", "end", "add", "?"):
                lines = text.split("\n")
                self.assert_bad("\n".join([lines[0], f"{lines[1]} {more}"] + lines[2:]), 2)
            if word != "take":
                lines = text.split("\n")
                self.assert_bad("\n".join([lines[0], f"{lines[1]} x"] + lines[2:]), 2)

    def test_each_row_with_a_blank_too_many(self):
        for word, (text, _) in RIGHT_ROWS.items():
            lines = text.split("\n")
            row = lines[1]
            spaced = [" " + row, row + " ", "  " + row, row + "  "]
            spaced += [row[:at] + " " + row[at:] for at, sign in enumerate(row) if sign == " "]
            for line in spaced:
                self.assert_bad("\n".join([lines[0], line] + lines[2:]), 2)

    def test_rows_of_blanks_alone(self):
        for many in (1, 2, 3, 60):
            self.assert_bad_row(" " * many)
            self.assert_bad(" " * many + "\ntake a", 1)

    def test_other_words_begin_no_row(self):
        for line in NO_ROWS:
            self.assert_bad_row(line)

    def test_a_sum_with_a_word_lacking_or_left_over(self):
        for line in BAD_SUMS:
            self.assert_bad_row(line)

    def test_each_sum(self):
        for words, found in (
            ("0", (0,)), ("12", (12,)), ("-7", (-7,)), ("a", ("a",)), ("add 1 2", ("add", 1, 2)),
            ("sub a -2", ("sub", "a", -2)), ("more b a", ("more", "b", "a")), ("cell 3", ("cell", 3)),
            ("cell cell cell a", ("cell", "cell", "cell", "a")),
            ("add cell 1 sub more 2 a 3", ("add", "cell", 1, "sub", "more", 2, "a", 3)),
        ):
            self.assertEqual(tell_sum(words), found)
            self.assertEqual(kinds(tell_sum(words)), kinds(found))
            for line in ("set x ", "when ", "while "):
                end = {"set x ": "", "when ": "\nelse\nend", "while ": "\nend"}[line]
                (deed,) = read(line + words + end)[1]
                self.assertEqual(deed[2 if deed[0] == "set" else 1], found)
            self.assertEqual(read(f"put {words} 5")[1], (("put", found, (5,)),))
            self.assertEqual(read(f"put 5 {words}")[1], (("put", (5,), found),))
            self.assertEqual(read(f"put {words} {words}")[1], (("put", found, found),))

    def test_all_short_rows_of_a_few_words(self):
        for many in range(6):
            for words in itertools.product(("add", "cell", "1", "a"), repeat=many):
                for head in ("tell", "put", "set"):
                    text = " ".join((head, *words))
                    found = plain_read(text)
                    self.assert_bad(text, None if isinstance(found, tuple) else found)
                    if isinstance(found, tuple):
                        self.assertEqual(read(text), found)


class Names(Reading):
    def assert_name(self, name):
        self.assertEqual(tell_sum(name), (name,))
        self.assertEqual(read(f"set {name} 1")[1], (("set", name, (1,)),))
        self.assertEqual(read(f"take {name}"), ((name,), ()))
        self.assertEqual(read(f"take first {name}"), (("first", name), ()))
        self.assertEqual(tell_sum(f"add {name} cell {name}"), ("add", name, "cell", name))

    def assert_no_name(self, name):
        self.assert_bad_row(f"set {name} 1")
        for line in (f"take {name}", f"take first {name}", f"take {name} first"):
            self.assert_bad(line, 1)
            self.assert_bad(f"\n\n{line}\ntell 1", 3)

    def test_names(self):
        for name in ("a", "z", "ab", "aa", "abcdefgh", "zzzzzzzz", "stuvwxyz", "halt", "get", "jump", "program"):
            self.assert_name(name)

    def test_names_that_begin_with_one_of_the_words(self):
        for word in WORDS:
            self.assert_name(word + "s")
            self.assert_name(word + word[0])
            self.assert_name("a" + word)
            self.assert_name(word[:-1] + "q")
        self.assert_name("ad")
        self.assert_name("takeset")
        self.assert_name("endwhile")

    def test_the_twelve_words_are_no_names(self):
        for word in WORDS:
            self.assert_no_name(word)
        for word in ("take", "set", "put", "tell", "when", "else", "while", "end"):
            self.assert_bad_row(f"tell {word}")
            self.assert_bad_row(f"tell {word} 1")
            self.assert_bad_row(f"tell add 1 {word}")
            self.assert_bad_row(f"tell add {word} 1")
            self.assert_bad_row(f"put 1 {word}")
            self.assert_bad_row(f"put {word} 1")
            self.assert_bad_row(f"set a {word}")
            self.assert_bad_row(f"while cell {word}")

    def test_no_names(self):
        for name in NO_NAMES + NO_FIGURES + ("0", "1", "-1", "12"):
            self.assert_no_name(name)
        for word in NO_NAMES + NO_FIGURES:
            self.assert_bad_row(f"tell {word}")
            self.assert_bad_row(f"when {word}")
            self.assert_bad_row(f"tell add 1 {word}")
            self.assert_bad_row(f"put {word} 1")
            self.assert_bad_row(f"put 1 cell {word}")
            self.assert_bad_row(f"set a {word}")

    def test_a_name_of_no_letters(self):
        for line in ("set  1", "tell ", "tell add  1", "tell add 1 ", "put  1", "put 1 ", "while ", "when "):
            self.assert_bad_row(line)
        for line in ("take ", "take", "take  a", "take a ", "take a  b"):
            self.assert_bad(line, 1)

    def test_each_sign_alone_and_beside_a_letter(self):
        for sign in SIGNS:
            if sign in LETTERS:
                self.assert_name(sign)
                self.assert_name("x" + sign)
            else:
                if sign not in "0123456789":
                    self.assert_bad_row("tell " + sign)
                self.assert_bad_row("tell x" + sign)
                self.assert_bad_row(f"tell x{sign}x")
                self.assert_bad_row(f"set {sign} 1")
                self.assert_bad_row(f"set x{sign} 1")
                self.assert_bad(f"take x{sign}", 1)

    def test_names_of_eight_and_nine_letters(self):
        self.assert_name("abcdefgh")
        self.assert_no_name("abcdefghi")
        self.assert_bad_row("tell abcdefghi")


class Numbers(Reading):
    def test_numbers(self):
        for word in ("0", "1", "9", "10", "-1", "-10", "1000000", "9" * 60, "-" + "9" * 60, "1" + "0" * 59):
            self.assertEqual(tell_sum(word), (int(word),))
            self.assertIs(type(tell_sum(word)[0]), int)
        self.assertEqual(tell_sum("9" * 60), (GREAT,))

    def test_no_numbers(self):
        for word in NO_FIGURES:
            for line in (f"tell {word}", f"set a add 1 {word}", f"put {word} 1", f"put 1 {word}", f"while cell {word}"):
                self.assert_bad_row(line)


class Taken(Reading):
    def test_one_to_six_names(self):
        for many in range(1, 7):
            names = tuple("abcdef"[:many])
            self.assertEqual(read("take " + " ".join(names)), (names, ()))
            self.assertEqual(read("take " + " ".join(names[::-1]) + "\ntell a"), (names[::-1], (("tell", ("a",)),)))

    def test_none_and_seven(self):
        self.assert_bad("take", 1)
        self.assert_bad("\ntake\ntell 1", 2)
        self.assert_bad("take a b c d e f g", 1)
        self.assert_bad("\n\ntake a b c d e f g\ntell", 3)

    def test_one_name_twice(self):
        for names in ("a a", "a b a", "a b b", "a b c d e a", "aa aa"):
            self.assert_bad("take " + names, 1)
            self.assert_bad("\ntake " + names + "\ntell 1", 2)

    def test_behind_rows_without_signs(self):
        for many in range(5):
            self.assertEqual(read("\n" * many + "take a\n\ntell a"), (("a",), (("tell", ("a",)),)))

    def test_behind_another_row(self):
        for line in ("tell 1", "set a 1", "put 1 2", "while 0\nend", "when 0\nelse\nend"):
            self.assert_bad(line + "\ntake a", line.count("\n") + 2)
            self.assert_bad(line + "\n\ntake a\ntell a", line.count("\n") + 3)

    def test_within_a_block(self):
        self.assert_bad("while 1\ntake a\nend", 2)
        self.assert_bad("when 1\ntake a\nelse\nend", 2)
        self.assert_bad("take a\nwhen 1\nelse\ntake b\nend", 4)

    def test_a_second_take(self):
        self.assert_bad("take a\ntake b", 2)
        self.assert_bad("take a\ntake a", 2)
        self.assert_bad("take a\n\n\ntake b\ntell a", 4)
        self.assert_bad("take a\ntell a\ntake b", 3)

    def test_a_bad_first_row_is_told_ahead_of_the_take(self):
        self.assert_bad("tell\ntake a", 1)
        self.assert_bad(" \ntake a", 1)


class WithoutSigns(Reading):
    def test_a_text_without_signs(self):
        for many in range(5):
            self.assertEqual(read("\n" * many), ((), ()))

    def test_ahead_between_and_behind(self):
        rows = EVERY_ROW.split("\n")
        for at in range(len(rows) + 1):
            for many in (1, 3):
                self.assertEqual(read("\n".join(rows[:at] + [""] * many + rows[at:])), EVERY_PROGRAM)
        self.assertEqual(read("\n" + "\n\n".join(rows) + "\n"), EVERY_PROGRAM)

    def test_they_are_counted(self):
        for many in range(5):
            self.assert_bad("\n" * many + "tell", many + 1)
            self.assert_bad("tell 1" + "\n" * many + "\nend", many + 2)
            self.assert_bad("while 1" + "\n" * many, many + 2)


class Sizes(Reading):
    def test_sixty_and_sixty_one_words(self):
        for head, end in (("tell", ""), ("set a", ""), ("when", "\nelse\nend"), ("while", "\nend"), ("put 1", "")):
            ahead = len(head.split(" "))
            cells = " cell" * (59 - ahead)
            self.assertEqual(len((head + cells + " 1").split(" ")), 60)
            self.assertIsNone(row_told(f"{head}{cells} 1{end}"))
            self.assert_bad(f"\n{head}{cells} cell 1{end}", 2)
            self.assert_bad(f"\n{head}{cells}{cells} 1{end}", 2)
        self.assertIsNone(row_told("put" + " cell" * 57 + " 1 2"))
        self.assert_bad("put" + " cell" * 58 + " 1 2", 1)

    def test_sixty_and_sixty_one_words_leaning_to_the_left(self):
        adds = "add " * 29 + "1" + " 1" * 29
        self.assertEqual(len(("tell " + adds).split(" ")), 60)
        self.assertEqual(tell_sum(adds), ("add",) * 29 + (1,) * 30)
        self.assert_bad("tell cell " + adds, 1)
        self.assert_bad("set a " + adds, 1)
        self.assert_bad("tell 1\nwhile add " + adds + " 1\nend", 2)

    def test_depth_leaning_to_the_right(self):
        for head, end in (("tell ", ""), ("set a ", ""), ("when ", "\nelse\nend"), ("while ", "\nend"), ("put ", " 1")):
            self.assertIsNone(row_told(head + RIGHT_SIX + end))
            self.assert_bad("\n" + head + RIGHT_SEVEN + end, 2)

    def test_depth_of_the_second_sum_of_a_put(self):
        self.assertIsNone(row_told("put 1 " + RIGHT_FIVE))
        self.assert_bad("put 1 " + RIGHT_SIX, 1)
        self.assert_bad("\nput " + RIGHT_SIX + " " + RIGHT_SIX, 2)
        self.assertIsNone(row_told(f"put {RIGHT_SIX} {RIGHT_FIVE}"))
        self.assert_bad(f"put {RIGHT_SEVEN} {RIGHT_FIVE}", 1)

    def test_leaning_to_the_left_goes_no_deeper_than_two(self):
        for head, end in (("tell ", ""), ("set a ", ""), ("when ", "\nelse\nend"), ("while ", "\nend"), ("put 1 ", "")):
            self.assertIsNone(row_told(head + LEFT_LONG + end))
        self.assertIsNone(row_told("tell add 1 add 2 add 3 add 4 " + LEFT_LONG))
        self.assert_bad("tell add 1 add 2 add 3 add 4 add 5 " + LEFT_LONG, 1)
        self.assertIsNone(row_told("put 1 add 1 add 2 add 3 " + LEFT_LONG))
        self.assert_bad("put 1 add 1 add 2 add 3 add 4 " + LEFT_LONG, 1)

    def test_the_first_sum_may_be_as_deep_as_the_whole(self):
        self.assertIsNone(row_told(f"tell add {RIGHT_SIX} 1"))
        self.assertIsNone(row_told(f"tell add {RIGHT_SIX} {RIGHT_FIVE}"))
        self.assert_bad(f"tell add {RIGHT_SIX} {RIGHT_SIX}", 1)
        self.assert_bad(f"tell add 1 {RIGHT_SIX}", 1)
        self.assert_bad(f"tell add {RIGHT_SEVEN} 1", 1)
        self.assertIsNone(row_told(f"tell sub add add {RIGHT_SIX} {RIGHT_FIVE} 1 2"))

    def test_a_cell_goes_no_deeper(self):
        self.assertIsNone(row_told("tell " + "cell " * 20 + "1"))
        self.assertIsNone(row_told(f"tell cell cell {RIGHT_SIX}"))
        self.assert_bad(f"tell cell cell {RIGHT_SEVEN}", 1)
        self.assertIsNone(row_told("tell add 1 cell add 1 cell add 1 cell add 1 cell add 1 cell 1"))
        self.assert_bad("tell add 1 cell add 1 cell add 1 cell add 1 cell add 1 cell add 1 cell 1", 1)
        self.assertIsNone(row_told(f"put 1 cell {RIGHT_FIVE}"))
        self.assert_bad(f"put 1 cell {RIGHT_SIX}", 1)

    def test_twelve_and_thirteen_blocks(self):
        for heads in (["while"] * 12, ["when"] * 12, ["while", "when"] * 6, ["when", "while", "while"] * 4):
            self.assertIsNone(row_told(within(heads)))
            for more in ("while", "when"):
                self.assert_bad(within(heads + [more]), 13)
                self.assert_bad("take a\n\n" + within(heads + [more]), 15)
            self.assertIsNone(row_told(within(heads) + "\n" + within(heads)))

    def test_blocks_apart_are_not_within_one_another(self):
        self.assertIsNone(row_told("while 1\nend\n" * 40))
        self.assertIsNone(row_told("when 1\nelse\nend\n" * 40))
        inner = within(["while"] * 11, "while 1\nend\nwhen 1\nwhile 0\nend")
        self.assert_bad(inner, 15)
        self.assertIsNone(row_told(within(["while"] * 11, "while 1\nend\nwhen 1\nelse\nend\nwhile 1\nend")))

    def test_an_else_is_within_its_when(self):
        ahead = "when 1\nelse\n" * 12
        self.assertIsNone(row_told(ahead + "end\n" * 12))
        self.assert_bad(ahead + "while 1\nend\n" + "end\n" * 12, 25)


class Blocks(Reading):
    def test_an_else_or_end_that_belongs_to_nothing(self):
        for word in ("else", "end"):
            self.assert_bad(word, 1)
            self.assert_bad(f"\ntell 1\n{word}", 3)
            self.assert_bad(f"take a\n{word}", 2)
            self.assert_bad(f"while 1\nend\n{word}", 3)
            self.assert_bad(f"when 1\nelse\nend\n{word}\ntell", 4)

    def test_an_else_in_a_while(self):
        self.assert_bad("while 1\nelse\nend", 2)
        self.assert_bad("when 1\nwhile 1\nelse\nend\nend", 3)
        self.assert_bad("when 1\nelse\nwhile 1\ntell 1\nelse\nend\nend", 5)

    def test_a_second_else(self):
        self.assert_bad("when 1\nelse\nelse\nend", 3)
        self.assert_bad("when 1\ntell 1\nelse\ntell 2\n\nelse\ntell 3\nend", 6)

    def test_an_end_ahead_of_the_else(self):
        self.assert_bad("when 1\nend", 2)
        self.assert_bad("when 1\nend\nelse\nend", 2)
        self.assert_bad("when 1\ntell 1\nwhile 1\nend\nend\nelse\nend", 5)

    def test_an_end_or_an_else_that_lacks(self):
        for text in (
            "when 1", "when 1\nelse", "while 1", "when 1\nwhen 1\nelse\nend", "while 1\nwhile 1\nend",
            "tell 1\nwhile 1",
        ):
            for behind in ("", "\n", "\n\n\n", "\ntell 1", "\ntell 1\n"):
                self.assert_bad(text + behind, (text + behind).count("\n") + 2)
                self.assert_bad("\n" + text + behind, (text + behind).count("\n") + 3)
            self.assert_bad("take a\n" + text, text.count("\n") + 3)

    def test_blocks_within_blocks(self):
        self.assertEqual(
            read("when a\nwhen b\ntell 1\nelse\nend\nelse\nwhen c\nelse\ntell 2\nend\nwhile d\nend\nend")[1],
            ((
                "when", ("a",),
                (("when", ("b",), (("tell", (1,)),), ()),),
                (("when", ("c",), (), (("tell", (2,)),)), ("while", ("d",), ())),
            ),),
        )

    def test_all_texts_of_a_few_rows(self):
        rows = ("", "take a", "tell 1", "when 1", "else", "while a", "end", "tell")
        for many in range(1, 6):
            for chosen in itertools.product(rows, repeat=many):
                text = "\n".join(chosen)
                found = plain_read(text)
                if isinstance(found, tuple):
                    self.assertEqual(read(text), found)
                else:
                    self.assert_bad(text, found)


class FirstBadRow(Reading):
    def test_the_first_of_two_is_told(self):
        self.assert_bad("tell\nset", 1)
        self.assert_bad("tell 1\nset a\n\nput", 2)
        self.assert_bad("take a a\ntell", 1)
        self.assert_bad("end\ntell", 1)
        self.assert_bad("tell\nend", 1)
        self.assert_bad("while 1\ntell 1\ntell", 3)
        self.assert_bad("while 1\nelse\ntell", 2)
        self.assert_bad("when 1\ntell x1\nend", 2)
        self.assert_bad(within(["while"] * 13, "tell"), 13)
        self.assert_bad("tell 00\n" + within(["while"] * 13), 1)

    def test_what_is_refused_is_refused_alike_again(self):
        text = "tell 1\n\nend"
        self.assertEqual([row_told(text), row_told(text)], [3, 3])
        self.assertIsNone(row_told("while 1\nend"))

    def test_changed_texts(self):
        source = chance(19)
        bits = ["", " ", "\n", "a", "1", "-", "end", "else", "while 1", "when a", "take", "add", "cell", "0", "tell 2"]
        refused = 0
        for _ in range(3000):
            text = shown(some_program(source))[:400]
            for _ in range(source.randrange(1, 3)):
                at = source.randrange(len(text) + 1)
                text = text[:at] + source.choice(bits) + text[at + source.randrange(3):]
            found = plain_read(text)
            if isinstance(found, tuple):
                self.assertEqual(read(text), found)
            else:
                refused += 1
                self.assert_bad(text, found)
        self.assertGreater(refused, 1000)


class Shown(unittest.TestCase):
    def test_a_program_as_a_text(self):
        self.assertEqual(shown(EVERY_PROGRAM), EVERY_ROW)

    def test_each_deed(self):
        for text in (
            "take a", "take a b c d e f", "set a 1", "set a add b -1", "put 1 2", "put add 1 a cell b", "tell 0",
            "tell " + "9" * 60, "tell -" + "9" * 60, "when a\nelse\nend", "while more a b\nend",
            "when 1\ntell 1\nelse\ntell 2\nend", "take a\nwhile a\nset a sub a 1\nend\ntell a",
        ):
            self.assertEqual(shown(read(text)), text)

    def test_no_deeds_at_all(self):
        self.assertEqual(shown(((), ())), "")
        self.assertEqual(shown((("a", "b"), ())), "take a b")

    def test_deeds_without_rows_within_blocks(self):
        for text, program in (
            ("when 1\nelse\nend", ((), (("when", (1,), (), ()),))),
            ("when 1\ntell 2\nelse\nend", ((), (("when", (1,), (("tell", (2,)),), ()),))),
            ("when 1\nelse\ntell 2\nend", ((), (("when", (1,), (), (("tell", (2,)),)),))),
            ("while 1\nend", ((), (("while", (1,), ()),))),
            ("while 1\nwhile 2\nend\nend", ((), (("while", (1,), (("while", (2,), ()),)),))),
        ):
            self.assertEqual(shown(program), text)
            self.assertEqual(read(text), program)

    def test_rows_without_signs_are_not_shown(self):
        self.assertEqual(shown(read("\n\ntake a\n\n\nwhile a\n\nend\n\n")), "take a\nwhile a\nend")
        self.assertEqual(shown(read("\n\n\n")), "")
        for text in PLAIN_TEXTS:
            self.assertEqual(shown(read("\n" + text.replace("\n", "\n\n") + "\n")), text)
            self.assertEqual(shown(read(text)), text)

    def test_what_is_shown_is_read_to_the_program(self):
        source = chance(20)
        for _ in range(1500):
            program = some_program(source)
            text = shown(program)
            self.assertEqual(read(text), program)
            self.assertEqual(kinds(read(text)), kinds(program))
            self.assertEqual(shown(read(text)), text)
            self.assertEqual(plain_read(text), program)

    def test_twelve_blocks_and_sixty_words(self):
        adds = "add " * 29 + "1" + " b" * 29
        for text in (within(["while", "when"] * 6), "tell" + " cell" * 58 + " a", "tell " + adds):
            self.assertEqual(shown(read(text)), text)

    def test_somewhat_beyond_the_bounds_nothing_is_refused(self):
        long_sum = ("cell",) * 80 + (1,)
        great = int("7" * 70)
        names = tuple("abcdefgh")
        deep = tuple(RIGHT_SEVEN.split(" "))
        program = (names, (("tell", long_sum), ("set", "abcdefghijk", (great,)), ("tell", deep)))
        self.assertEqual(
            shown(program),
            "take a b c d e f g h\ntell" + " cell" * 80 + f" 1\nset abcdefghijk {great}\ntell {RIGHT_SEVEN}",
        )


class NamesOf(unittest.TestCase):
    def assert_names(self, text, names):
        found = names_of(read(text))
        self.assertEqual(found, tuple(names.split()))
        self.assertIs(type(found), tuple)

    def test_none(self):
        self.assert_names("", "")
        self.assert_names("tell 1\nput 1 add 2 cell 3\nwhile 0\nend\nwhen 0\nelse\nend", "")

    def test_names_taken(self):
        self.assert_names("take b a", "b a")
        self.assert_names("take c b a\ntell a\ntell b", "c b a")
        self.assert_names("take c\nset a c\nset b a", "c a b")

    def test_names_taken_and_never_used(self):
        self.assert_names("take z y\nset a b", "z y a b")

    def test_a_name_that_first_stands_in_a_sum(self):
        self.assert_names("tell b\nset a b\nset c a", "b a c")
        self.assert_names("tell add b cell a\ntell c", "b a c")
        self.assert_names("put c a\ntell b", "c a b")
        self.assert_names("put add d cell c more b a", "d c b a")

    def test_a_set_s_name_stands_ahead_of_its_sum(self):
        self.assert_names("set b a", "b a")
        self.assert_names("set b add c a\nset a b", "b c a")
        self.assert_names("set a a\nset b a", "a b")

    def test_names_within_blocks(self):
        self.assert_names("when e\nset d 1\nelse\nset c b\nend\ntell a", "e d c b a")
        self.assert_names("while c\nwhile b\ntell a\nend\nset d 1\nend\ntell e", "c b a d e")
        self.assert_names("take x\nwhen x\nelse\ntell b\nend\ntell a\ntell b", "x b a")

    def test_as_they_first_stand_in_the_shown_text(self):
        source = chance(21)
        for _ in range(500):
            program = some_program(source)
            names = list(program[0])
            for word in shown(program).split():
                if word.isalpha() and word not in WORDS and word not in names:
                    names.append(word)
            self.assertEqual(names_of(program), tuple(names))


if __name__ == "__main__":
    unittest.main()
