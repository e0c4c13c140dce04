"""The refusals of the program, one class for each."""


class CustomsError(ValueError):
    """Any refusal."""


class BadDay(CustomsError):
    """No day."""


class BadTerm(CustomsError):
    """No term, limit or wait."""


class BadCount(CustomsError):
    """A count out of its bounds."""


class BadDuty(CustomsError):
    """A duty out of its bounds."""


class BadRows(CustomsError):
    """More rows than a list may have."""


class BadStretch(CustomsError):
    """No stretch of days."""


class BadTaken(CustomsError):
    """Not a count for each lot, within its bounds."""


class NotDealable(CustomsError):
    """Taken counts that can't be dealt out."""


class NoPlace(CustomsError):
    """No such place in a list."""


class BadParts(CustomsError):
    """No parts of a made kind."""


class TooMuch(CustomsError):
    """A unit would hold too many units of a raw kind."""


class NoKind(CustomsError):
    """No such kind."""


class NotRaw(CustomsError):
    """A made kind where a raw one is asked for."""


class NoLot(CustomsError):
    """No such lot."""


class NoOut(CustomsError):
    """No such out."""


class NoClaim(CustomsError):
    """No such claim."""


class Struck(CustomsError):
    """Struck out already."""


class Claimed(CustomsError):
    """A unit of it is claimed."""


class Called(CustomsError):
    """Called back already."""


class NothingDue(CustomsError):
    """Nothing to lay a claim to."""


class NothingLeft(CustomsError):
    """Nothing to take back or to do again."""


class Full(CustomsError):
    """The book has no room for more."""


class BadShare(CustomsError):
    """A share out of its bounds."""


class BadText(CustomsError):
    """A text that writes no deed."""


class BadMinutes(CustomsError):
    """Minutes that can't be read; at is the number of the first bad row."""

    def __init__(self, at):
        self.at = at
