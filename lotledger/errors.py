"""The refusals: each has a class of its own, straight under LotError."""


class LotError(ValueError):
    """Any refusal."""


class NoWeights(LotError):
    """Nothing can be dealt by these weights."""


class NoEntry(LotError):
    """An entry can't be made of these values."""


class NotHeld(LotError):
    """The entry of this number can't be done with what is held."""

    def __init__(self, number):
        LotError.__init__(self, f"entry {number} can't be done with what is held")
        self.number = number


class Twice(LotError):
    """Two entries have this number."""

    def __init__(self, number):
        LotError.__init__(self, f"number {number} is there twice")
        self.number = number


class NoLot(LotError):
    """A lot that is picked isn't there, or has too few pieces."""

    def __init__(self, number):
        LotError.__init__(self, f"the lots of number {number} aren't there")
        self.number = number


class NoWay(LotError):
    """No way has this word."""


class NoPieces(LotError):
    """A split would leave no pieces."""


class Late(LotError):
    """The entry of this number isn't behind the last one that was done."""

    def __init__(self, number):
        LotError.__init__(self, f"entry {number} comes too late")
        self.number = number


class NoNumber(LotError):
    """No entry has this number."""

    def __init__(self, number):
        LotError.__init__(self, f"there is no entry of number {number}")
        self.number = number


class NoText(LotError):
    """This row of a text isn't one of a sheet."""

    def __init__(self, row):
        LotError.__init__(self, f"row {row} tells no entry")
        self.row = row
