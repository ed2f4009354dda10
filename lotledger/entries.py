"""Entries: the six kinds of what happens to a ware on a day, and what is held behind each."""

from lotledger.errors import NoEntry

MOST_DAY = 1000000
MOST_NUMBER = 1000000
MOST_LETTERS = 8
MOST_PIECES = 1000000000
MOST_PRICE = 1000000000
MOST_FEE = 1000000000
MOST_GIFT_COST = 1000000000000000000
MOST_SPLIT = 1000
MOST_WHOLE = 1000000


class Entry:
    """What all kinds have; it is not made by itself."""

    def __init__(self, day, number, ware):
        check_number("the day", day, 0, MOST_DAY)
        check_number("the number", number, 0, MOST_NUMBER)
        check_name("the ware", ware)
        self.day = day
        self.number = number
        self.ware = ware


class Buy(Entry):
    """Pieces bought at a price for each, with a fee."""

    def __init__(self, day, number, ware, pieces, price, fee=0):
        Entry.__init__(self, day, number, ware)
        check_trade(pieces, price, fee)
        self.pieces = pieces
        self.price = price
        self.fee = fee
        self.cost = pieces * price + fee

    def word(self):
        return "buy"

    def told(self):
        return (self.word(), self.day, self.number, self.ware, self.pieces, self.price, self.fee)

    def held_behind(self, held):
        return held_with_more(held, self.ware, self.pieces)


class Sell(Entry):
    """Pieces sold at a price for each, with a fee, perhaps out of named lots."""

    def __init__(self, day, number, ware, pieces, price, fee=0, named=None):
        Entry.__init__(self, day, number, ware)
        check_trade(pieces, price, fee)
        check_named(named, pieces)
        self.pieces = pieces
        self.price = price
        self.fee = fee
        self.named = named_copy(named)
        self.proceeds = pieces * price - fee

    def word(self):
        return "sell"

    def told(self):
        named = named_told(self.named)
        return (self.word(), self.day, self.number, self.ware, self.pieces, self.price, self.fee, named)

    def held_behind(self, held):
        return held_with_fewer(held, self.ware, self.pieces)


class Gift(Entry):
    """Pieces brought with a cost, held since a day no later than the entry's own."""

    def __init__(self, day, number, ware, pieces, cost, since):
        Entry.__init__(self, day, number, ware)
        check_number("the pieces", pieces, 1, MOST_PIECES)
        check_number("the cost", cost, 0, MOST_GIFT_COST)
        check_number("the day since which it is held", since, 0, day)
        self.pieces = pieces
        self.cost = cost
        self.since = since

    def word(self):
        return "gift"

    def told(self):
        return (self.word(), self.day, self.number, self.ware, self.pieces, self.cost, self.since)

    def held_behind(self, held):
        return held_with_more(held, self.ware, self.pieces)


class Give(Entry):
    """Pieces given away, perhaps out of named lots."""

    def __init__(self, day, number, ware, pieces, named=None):
        Entry.__init__(self, day, number, ware)
        check_number("the pieces", pieces, 1, MOST_PIECES)
        check_named(named, pieces)
        self.pieces = pieces
        self.named = named_copy(named)

    def word(self):
        return "give"

    def told(self):
        return (self.word(), self.day, self.number, self.ware, self.pieces, named_told(self.named))

    def held_behind(self, held):
        return held_with_fewer(held, self.ware, self.pieces)


class Split(Entry):
    """Of the pieces of a ware, many come of each so many of them."""

    def __init__(self, day, number, ware, many, of):
        Entry.__init__(self, day, number, ware)
        check_number("many", many, 1, MOST_SPLIT)
        check_number("of", of, 1, MOST_SPLIT)
        self.many = many
        self.of = of

    def word(self):
        return "split"

    def told(self):
        return (self.word(), self.day, self.number, self.ware, self.many, self.of)

    def held_behind(self, held):
        before = held.get(self.ware, 0)
        behind = before * self.many // self.of
        if before > 0 and behind == 0:
            return None
        return held_with(held, self.ware, behind)


class Parting(Entry):
    """A ware gives a share of a whole of its costs to another ware."""

    def __init__(self, day, number, ware, other, share, whole):
        Entry.__init__(self, day, number, ware)
        check_name("the other ware", other)
        if other == ware:
            raise NoEntry("the other ware is the ware itself")
        check_number("the whole", whole, 1, MOST_WHOLE)
        check_number("the share", share, 0, whole)
        self.other = other
        self.share = share
        self.whole = whole

    def word(self):
        return "part"

    def told(self):
        return (self.word(), self.day, self.number, self.ware, self.other, self.share, self.whole)

    def held_behind(self, held):
        return held_with_more(held, self.other, held.get(self.ware, 0))


def entry_that_tells(told):
    """The entry whose told() is this, which is of one of the six words and as long as that kind's."""
    word = told[0]
    if word == "buy":
        return Buy(told[1], told[2], told[3], told[4], told[5], told[6])
    if word == "sell":
        return Sell(told[1], told[2], told[3], told[4], told[5], told[6], named_copy(told[7]))
    if word == "gift":
        return Gift(told[1], told[2], told[3], told[4], told[5], told[6])
    if word == "give":
        return Give(told[1], told[2], told[3], told[4], named_copy(told[5]))
    if word == "split":
        return Split(told[1], told[2], told[3], told[4], told[5])
    return Parting(told[1], told[2], told[3], told[4], told[5], told[6])


def is_whole_number(value):
    # Python counts True and False among the ints; here they are none.
    return isinstance(value, int) and not isinstance(value, bool)


def check_number(what, value, least, most):
    if not is_whole_number(value) or value < least or value > most:
        raise NoEntry(f"{what} is no whole number from {least} to {most}")


def check_name(what, value):
    if not is_name(value):
        raise NoEntry(f"{what} is no name of one to {MOST_LETTERS} letters from a to z")


def is_name(value):
    if not isinstance(value, str) or len(value) < 1 or len(value) > MOST_LETTERS:
        return False
    return all(["a" <= sign <= "z" for sign in value])


def check_trade(pieces, price, fee):
    check_number("the pieces", pieces, 1, MOST_PIECES)
    check_number("the price", price, 0, MOST_PRICE)
    check_number("the fee", fee, 0, MOST_FEE)


def check_named(named, pieces):
    """Refuse named lots that can't be those of an entry of so many pieces."""
    if named is None:
        return
    if not isinstance(named, list):
        raise NoEntry("the named lots are no list")
    seen = {}
    for lot, lot_pieces in named:
        check_number("a named lot", lot, 0, MOST_NUMBER)
        # One that has more than all could not come to them with the others.
        check_number("a named lot's pieces", lot_pieces, 1, pieces)
        if lot in seen:
            raise NoEntry(f"lot {lot} is named twice")
        seen[lot] = True
    if sum([pair[1] for pair in named]) != pieces:
        raise NoEntry("the pieces of the named lots don't come to the entry's")


def named_copy(named):
    return None if named is None else list(named)


def named_told(named):
    return None if named is None else tuple(named)


def held_with(held, ware, pieces):
    """What is held when there are so many pieces of the ware, in a new dict."""
    changed = dict(held)
    changed[ware] = pieces
    return dict([(name, count) for name, count in changed.items() if count > 0])


def held_with_more(held, ware, pieces):
    return held_with(held, ware, held.get(ware, 0) + pieces)


def held_with_fewer(held, ware, pieces):
    """What is held when these pieces are taken, or None where fewer are held."""
    before = held.get(ware, 0)
    if before < pieces:
        return None
    return held_with(held, ware, before - pieces)
