"""The refusals of Maymeet, each a class of its own straight under MeetError."""


class MeetError(ValueError):
    """Any refusal."""


class NoMany(MeetError):
    """What should be a number of people is no whole number from 1 to 9."""


class NoRow(MeetError):
    """What should be a row is none."""


class NoBook(MeetError):
    """What should be a book of so many people is none."""


class NoGoing(MeetError):
    """What should be a going through the book is none."""


class NoGap(MeetError):
    """What should be a gap between two places of the row is none."""


class NoStep(MeetError):
    """What should be a step that the book allows is none."""


class NoTable(MeetError):
    """What should be a table or a weight is none."""


class NoKinds(MeetError):
    """What should be a row of kinds is none."""


class NoFar(MeetError):
    """What should be a far book is none."""


class NoPlace(MeetError):
    """What should be a place of a meeting is none."""


class NoNumber(MeetError):
    """What should be a number of the asked range is none."""


class Unlike(MeetError):
    """Rows that are asked about together are not of the same people."""


class NotOne(MeetError):
    """Two books are not both shortest books of one row."""


class NotLet(MeetError):
    """The book does not let the row."""


class NoLeaving(MeetError):
    """What should be a leaving is none."""


class TooMany(MeetError):
    """There are more than the asking allows; many tells how many."""

    def __init__(self, many):
        super().__init__(f"too many: {many}")
        self.many = many


class NoText(MeetError):
    """The text writes nothing of the asked kind."""
