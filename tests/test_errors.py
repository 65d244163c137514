import unittest

from stepledger import errors

PLAIN = ("NoRoll", "BadCut", "NoTime", "NoDispute", "BadGiven", "Spent")


def made():
    refusals = [getattr(errors, name)("some words") for name in PLAIN]
    return refusals + [errors.BadRow(3), errors.Unfit(("step", 4))]


class Errors(unittest.TestCase):
    def test_each_is_a_ledger_error_and_a_value_error(self):
        for refusal in made():
            self.assertIsInstance(refusal, errors.LedgerError)
            self.assertIsInstance(refusal, ValueError)

    def test_none_stands_under_another(self):
        for one in made():
            for other in made():
                if type(one) is not type(other):
                    self.assertNotIsInstance(one, type(other))

    def test_ledger_error_stands_under_value_error(self):
        self.assertEqual(errors.LedgerError.__bases__, (ValueError,))

    def test_plain_ones_are_made_of_a_text(self):
        for refusal in made()[:len(PLAIN)]:
            self.assertEqual(str(refusal), "some words")

    def test_bad_row_keeps_its_row(self):
        for row in (1, 2, 400, 4001):
            self.assertEqual(errors.BadRow(row).row, row)
        self.assertIs(type(errors.BadRow(1).row), int)

    def test_unfit_keeps_its_fault(self):
        for fault in (("begin", 0), ("step", 7), ("end", 1), ("use", 0), ("match", 2), ("count", 3)):
            self.assertEqual(errors.Unfit(fault).fault, fault)

    def test_values_are_each_object_s_own(self):
        one = errors.BadRow(1)
        other = errors.BadRow(2)
        self.assertEqual((one.row, other.row), (1, 2))
        self.assertFalse(hasattr(errors.BadRow, "row"))
        self.assertFalse(hasattr(errors.Unfit, "fault"))

    def test_they_are_raised_and_taken(self):
        for refusal in made():
            with self.assertRaises(errors.LedgerError) as caught:
                raise refusal
            self.assertIs(caught.exception, refusal)


if __name__ == "__main__":
    unittest.main()
