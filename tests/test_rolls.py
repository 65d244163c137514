import unittest

from samples import GREAT, arguments
from stepledger.errors import BadRow, NoRoll
from stepledger.rolls import is_number, read_roll, shown_roll

SIGNS = [chr(code) for code in range(ord(" "), ord("~") + 1)] + ["\n"]
NO_FIGURES = [sign for sign in SIGNS if sign not in "0123456789"]

TEN_ROWS = (
    ("put", 0, 12),
    ("add", 1, 2, 3),
    ("sub", 4, 5, 6),
    ("more", 7, 0, 1),
    ("get", 2, 3),
    ("set", 4, 5),
    ("jump", 7),
    ("when", 6, 9),
    ("tell", 7),
    ("halt",),
)
TEN_LINES = (
    "put 0 12",
    "add 1 2 3",
    "sub 4 5 6",
    "more 7 0 1",
    "get 2 3",
    "set 4 5",
    "jump 7",
    "when 6 9",
    "tell 7",
    "halt",
)

# Each of these is no row, wherever it stands.
NO_ROWS = (
    # another word
    "", "stop", "Halt", "HALT", "halts", "hal", "7", "-", "\t", "halt\t", "halt\r", "mul 0 1 2", "push 0",
    # too few words
    "put", "put 0", "add", "add 0 1", "sub 0 1", "more 0 1", "get", "get 0", "set 0", "jump", "when", "when 0", "tell",
    # too many words
    "put 0 1 2", "add 0 1 2 3", "sub 0 1 2 3", "more 0 1 2 3", "get 0 1 2", "set 0 1 2", "jump 0 0", "when 0 0 0",
    "tell 0 0", "halt 0", "halt halt",
    # a word that is no such number
    "put 0 x", "put 0 +1", "put 0 -0", "put 0 01", "put 0 -", "put 0 1_0", "put 0 1.0", "put 0 " + "1" * 61,
    "put 0 -" + "1" * 61, "put x 0", "put 00 0", "put 07 0", "put -0 0", "add 0 1 x", "add 0 x 1", "add x 0 1",
    "sub 0 1 +2", "more 0 1 02", "get 0 one", "get one 0", "set 0 --1", "set 01 1", "jump x", "jump 00", "jump -0",
    "jump 01", "jump " + "1" * 61, "when 0 x", "when 0 -0", "when x 0", "tell x", "tell 1e0", "tell 0x1",
    # a box that is none
    "put 8 0", "put -1 0", "add 8 0 0", "add 0 8 0", "add 0 0 8", "add -1 0 0", "add 0 -1 0", "add 0 0 -1",
    "sub 8 0 0", "sub 0 8 0", "sub 0 0 8", "sub 0 0 -1", "more 8 0 0", "more 0 8 0", "more 0 0 8", "more 0 0 -1",
    "get 8 0", "get 0 8", "get -1 0", "get 0 -1", "set 8 0", "set 0 8", "set -1 0", "set 0 -1", "when 8 0",
    "when -1 0", "tell 8", "tell -1", "tell 10", "tell " + "1" * 60,
    # blanks
    " ", "  ", " halt", "halt ", " tell 0", "tell 0 ", "tell  0", "put  0 1", "put 0  1", "put 0 1 ", " put 0 1",
    "tell\t0",
)


def deep_kinds(roll):
    return (type(roll), [(type(row), [type(word) for word in row]) for row in roll])


class Numbers(unittest.TestCase):
    def assert_numbers(self, words, answer):
        for word in words:
            self.assertIs(is_number(word), answer, repr(word))

    def test_numbers(self):
        self.assert_numbers([str(number) for number in range(-1100, 1101)], True)

    def test_sixty_figures(self):
        for figure in "123456789":
            self.assert_numbers([figure * 60, "-" + figure * 60, figure + "0" * 59, "-" + figure + "0" * 59], True)

    def test_sixty_one_figures(self):
        for figure in "0123456789":
            self.assert_numbers([figure * 61, "-" + figure * 61, "1" + figure * 60, "-1" + figure * 60], False)
        self.assert_numbers(["1" * 4000, "-" + "1" * 3999], False)

    def test_noughts(self):
        self.assert_numbers(["0"], True)
        self.assert_numbers(["-0", "00", "01", "-01", "-00", "000", "007", "0" * 60, "0" + "1" * 59], False)
        self.assert_numbers(["10", "-10", "100"], True)

    def test_no_sign_and_a_minus_alone(self):
        self.assert_numbers(["", "-", "--", "--1", "-1-", "1-", "1-1"], False)

    def test_other_signs_ahead_amid_and_behind(self):
        for sign in NO_FIGURES:
            self.assert_numbers([sign, "1" + sign + "2", "12" + sign, "-" + sign, "-1" + sign + "2"], False)
            self.assert_numbers(["-12" + sign, "0" + sign, sign + "0", "-" + sign + "12"], False)
            self.assert_numbers([sign + "12"], sign == "-")


class ShownAndRead(unittest.TestCase):
    def assert_both_ways(self, text, roll):
        self.assertEqual(shown_roll(roll), text)
        answer = read_roll(text)
        self.assertEqual(answer, roll)
        self.assertEqual(deep_kinds(answer), deep_kinds(roll))
        self.assertEqual(shown_roll(answer), text)

    def test_the_ten_rows(self):
        self.assert_both_ways("\n".join(TEN_LINES), TEN_ROWS)

    def test_each_row_alone_ahead_of_a_halt(self):
        for line, row in zip(TEN_LINES, TEN_ROWS):
            behind = 10
            roll = (row,) + (("halt",),) * behind
            self.assert_both_ways("\n".join([line] + ["halt"] * behind), roll)

    def test_a_halt_alone_and_a_jump_alone(self):
        self.assert_both_ways("halt", (("halt",),))
        self.assert_both_ways("jump 0", (("jump", 0),))

    def test_each_box(self):
        for a in range(8):
            for b in range(8):
                c = (a + b) % 8
                roll = (
                    ("put", a, b), ("add", a, b, c), ("sub", b, c, a), ("more", c, a, b), ("get", a, b),
                    ("set", a, b), ("when", a, b), ("tell", b), ("halt",),
                )
                text = (
                    f"put {a} {b}\nadd {a} {b} {c}\nsub {b} {c} {a}\nmore {c} {a} {b}\nget {a} {b}\n"
                    f"set {a} {b}\nwhen {a} {b}\ntell {b}\nhalt"
                )
                self.assert_both_ways(text, roll)

    def test_great_numbers(self):
        for number in (GREAT, -GREAT, 10 ** 59, -(10 ** 59), 0, 1, -1):
            self.assert_both_ways(f"put 3 {number}\nhalt", (("put", 3, number), ("halt",)))

    def test_four_hundred_rows(self):
        self.assert_both_ways("\n".join(["halt"] * 400), (("halt",),) * 400)
        self.assert_both_ways("\n".join(["jump 399"] * 400), (("jump", 399),) * 400)
        roll = tuple(("tell", k % 8) for k in range(399)) + (("jump", 0),)
        self.assert_both_ways("\n".join([f"tell {k % 8}" for k in range(399)] + ["jump 0"]), roll)

    def test_a_text_of_four_thousand_signs(self):
        great = int("7" * 60)
        small = int("7" * 36)
        text = f"put 0 {great}\n" * 59 + f"put 0 {small}\nhalt"
        self.assertEqual(len(text), 4000)
        self.assert_both_ways(text, (("put", 0, great),) * 59 + (("put", 0, small), ("halt",)))

    def test_rows_to_go_on_to_from_the_first_to_the_last(self):
        for many in (1, 2, 9, 11, 400):
            for k in (0, many // 2, many - 1):
                halts = (("halt",),) * (many - 1)
                self.assert_both_ways("halt\n" * (many - 1) + f"jump {k}", halts + (("jump", k),))
        for k in (0, 1):
            self.assert_both_ways(f"when 7 {k}\nhalt", (("when", 7, k), ("halt",)))

    def test_nothing_beyond_the_sizes_is_refused(self):
        self.assert_both_ways("\n".join(["halt"] * 450), (("halt",),) * 450)

    def test_a_great_number_beyond_sixty_figures_is_shown(self):
        self.assertEqual(shown_roll((("put", 0, -(10 ** 60)), ("halt",))), "put 0 -1" + "0" * 60 + "\nhalt")


class Refused(unittest.TestCase):
    def assert_bad_row(self, text, row):
        with self.assertRaises(BadRow, msg=repr(text)) as caught:
            read_roll(text)
        self.assertEqual(caught.exception.row, row, repr(text))
        self.assertIs(type(caught.exception.row), int)

    def assert_no_roll(self, text):
        with self.assertRaises(NoRoll, msg=repr(text)):
            read_roll(text)

    def test_no_row_ahead_amid_and_behind(self):
        for line in NO_ROWS:
            self.assert_bad_row(line, 1)
            self.assert_bad_row(line + "\nhalt", 1)
            self.assert_bad_row("tell 0\n" + line + "\nhalt", 2)
            self.assert_bad_row("tell 0\nhalt\n" + line, 3)
            self.assert_bad_row("halt\n" * 399 + line, 400)

    def test_rows_without_signs(self):
        self.assert_bad_row("", 1)
        self.assert_bad_row("\n", 1)
        self.assert_bad_row("\nhalt", 1)
        self.assert_bad_row("halt\n", 2)
        self.assert_bad_row("halt\n\nhalt", 2)
        self.assert_bad_row("tell 0\nhalt\n", 3)
        self.assert_bad_row("halt\nhalt\n\n", 3)

    def test_a_sign_too_many(self):
        for sign in SIGNS:
            row = 2 if sign == "\n" else 1
            self.assert_bad_row("halt" + sign, row)
            self.assert_bad_row(sign + "halt", 1)
            self.assert_bad_row("ha" + sign + "lt", 1)
            self.assert_bad_row("tell" + sign + sign + "1\nhalt", 1)

    def test_the_first_of_several(self):
        self.assert_bad_row("halt\nstop\ntell 8\n", 2)
        self.assert_bad_row("tell 8\nstop\n", 1)
        self.assert_bad_row("halt\nhalt\n\nstop", 3)
        self.assert_bad_row("stop\n" * 400, 1)
        self.assert_bad_row("halt\n" * 200 + "stop\n" * 200, 201)

    def test_bad_row_ahead_of_no_roll(self):
        self.assert_bad_row("jump 9\nstop\nhalt", 2)
        self.assert_bad_row("stop\njump 9\nhalt", 1)
        self.assert_bad_row("jump -1\nhalt\nstop", 3)
        self.assert_bad_row("when 0 3\nhalt\n", 3)
        self.assert_bad_row("stop\ntell 0", 1)
        self.assert_bad_row("tell 0\nstop", 2)
        self.assert_bad_row("jump 5\ntell 9\ntell 0", 2)
        self.assert_bad_row("when 8 9\nhalt", 1)
        self.assert_bad_row("when 0 9\nwhen 8 0\nhalt", 2)

    def test_rows_that_are_none_of_the_roll_s(self):
        for k in ("2", "3", "10", "-1", "-2", "400", "9" * 60, "-" + "9" * 60):
            self.assert_no_roll(f"jump {k}\nhalt")
            self.assert_no_roll(f"halt\njump {k}")
            self.assert_no_roll(f"when 0 {k}\nhalt")
        self.assert_no_roll("jump 1")
        self.assert_no_roll("jump -1")
        self.assert_no_roll("halt\n" * 399 + "jump 400")
        self.assert_no_roll("when 7 400\n" + "halt\n" * 398 + "halt")
        self.assert_no_roll("halt\nhalt\nwhen 7 -1\njump 0")

    def test_last_rows_that_are_neither_halt_nor_jump(self):
        for line in ("put 0 1", "add 0 1 2", "sub 0 1 2", "more 0 1 2", "get 0 1", "set 0 1", "when 0 0", "tell 0"):
            self.assert_no_roll(line)
            self.assert_no_roll("halt\n" + line)
            self.assert_no_roll("jump 1\n" + line)

    def test_both_faults_of_a_roll_at_once(self):
        self.assert_no_roll("jump 9\ntell 0")
        self.assert_no_roll("when 0 2")


class Interface(unittest.TestCase):
    def test_names_and_arguments(self):
        self.assertEqual(arguments(is_number), "(word)")
        self.assertEqual(arguments(read_roll), "(text)")
        self.assertEqual(arguments(shown_roll), "(roll)")

    def test_arguments_by_name(self):
        self.assertIs(is_number(word="7"), True)
        self.assertEqual(read_roll(text="halt"), (("halt",),))
        self.assertEqual(shown_roll(roll=(("halt",),)), "halt")


if __name__ == "__main__":
    unittest.main()
