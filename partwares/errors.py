"""What is refused: each refusal stands straight under WareError."""


class WareError(ValueError):
    """The base of all refusals of the package."""


class BadRule(WareError):
    """A rule's figure may not be; `word` is that figure's name."""

    def __init__(self, word):
        super().__init__("a rule's figure may not be so")
        self.word = word


class BadClause(WareError):
    """A rule's text is wrong; `place` is the number of the clause."""

    def __init__(self, place):
        super().__init__("a clause of a rule's text may not be so")
        self.place = place


class BadRow(WareError):
    """A text of rows is wrong; `row` is the number of the row."""

    def __init__(self, row):
        super().__init__("a row of the text may not be so")
        self.row = row


class NoDay(WareError):
    """The day lies behind one that was passed already."""


class Idle(WareError):
    """The ware isn't put by any more."""


class NoEntry(WareError):
    """There is no such entry, or nothing to undo."""


class NoWare(WareError):
    """There is no ware of that name by that day."""


class NoHouse(WareError):
    """There is no house of that name by that day."""
