"""Ways: which lots of a row go first."""

from lotledger.errors import NoWay
from lotledger.lots import Lot, cost_in, row_without
from lotledger.shares import dealt


class Way:
    """What all ways have; it is not made by itself."""

    def levelled(self, lots):
        return list(lots)


class Eldest(Way):
    """Lots go by the row's order."""

    def word(self):
        return "eldest"

    def picks(self, lots, pieces):
        return picks_in_turn(lots, pieces)


class Newest(Way):
    """Lots go from behind."""

    def word(self):
        return "newest"

    def picks(self, lots, pieces):
        return picks_in_turn(list(reversed(lots)), pieces)


class Dearest(Way):
    """Lots go by falling cost for each piece, alike ones by the row's order."""

    def word(self):
        return "dearest"

    def picks(self, lots, pieces):
        return picks_in_turn(dearest_first(lots), pieces)


class Mean(Eldest):
    """Lots go as by the eldest way, but all at their mean cost."""

    def word(self):
        return "mean"

    def levelled(self, lots):
        if len(lots) == 0:
            # Without a weight above 0 nothing can be dealt.
            return []
        costs = dealt(cost_in(lots), [lot.pieces for lot in lots])
        return [Lot(lot.number, lot.since, lot.pieces, cost) for lot, cost in zip(lots, costs)]


def way_by(word):
    """The way that has the word."""
    for way in [Eldest(), Newest(), Dearest(), Mean()]:
        if way.word() == word:
            return way
    raise NoWay(f"no way is called {word!r}")


def picks_in_turn(lots, pieces):
    """Of each lot in turn as many pieces as there are, or as are still wanted."""
    picks = []
    wanted = pieces
    for lot in lots:
        if wanted <= 0:
            break
        going = min(lot.pieces, wanted)
        picks.append((lot.number, going))
        wanted = wanted - going
    return picks


def dearest_first(lots):
    """The lots by falling cost for each piece, alike ones as they stood."""
    turn = []
    for lot in lots:
        # Only ahead of cheaper ones, so that of alike ones the earlier stays ahead.
        cheaper = [place for place, other in enumerate(turn) if lot.is_dearer(other)]
        turn.insert(min(cheaper, default=len(turn)), lot)
    return turn


def gone_from(way, lots, pieces, named):
    """The lots that go out of a row by the way, or those that are named, and the row that is left."""
    row = way.levelled(lots)
    picks = way.picks(row, pieces) if named is None else named
    return row_without(row, picks)
