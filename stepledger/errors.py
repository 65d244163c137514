"""The refusals, one class for each."""


class LedgerError(ValueError):
    pass


class NoRoll(LedgerError):
    pass


class BadCut(LedgerError):
    pass


class NoTime(LedgerError):
    pass


class NoDispute(LedgerError):
    pass


class BadGiven(LedgerError):
    pass


class Spent(LedgerError):
    pass


class BadRow(LedgerError):
    def __init__(self, row):
        LedgerError.__init__(self, f"row {row} is none that can stand there")
        self.row = row


class Unfit(LedgerError):
    def __init__(self, fault):
        LedgerError.__init__(self, f"the tables do not fit: {fault!r}")
        self.fault = fault
