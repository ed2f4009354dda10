"""Lots, and rows of them: lists of lots of unlike numbers, by since, then by number."""

from lotledger.errors import NoLot
from lotledger.shares import part_of


class Lot:
    """Pieces that came at once, held since a day, with their cost; nothing changes a lot."""

    def __init__(self, number, since, pieces, cost):
        self.number = number
        self.since = since
        self.pieces = pieces
        self.cost = cost

    def told(self):
        return (self.number, self.since, self.pieces, self.cost)

    def taken(self, pieces):
        """The lot of these pieces, and the lot of the others, or None where there are none."""
        cost = part_of(self.cost, pieces, self.pieces)
        gone = Lot(self.number, self.since, pieces, cost)
        if pieces == self.pieces:
            return (gone, None)
        return (gone, Lot(self.number, self.since, self.pieces - pieces, self.cost - cost))

    def with_more(self, pieces, cost):
        return Lot(self.number, self.since, self.pieces + pieces, self.cost + cost)

    def is_dearer(self, other):
        # Cost for each piece against cost for each piece, without a division that would round.
        return self.cost * other.pieces > other.cost * self.pieces


def row_with(lots, lot):
    """The row with the lot at its place, or added to the one of its number."""
    if any([one.number == lot.number for one in lots]):
        return [one.with_more(lot.pieces, lot.cost) if one.number == lot.number else one for one in lots]
    return sorted(lots + [lot], key=place_in_row)


def place_in_row(lot):
    return (lot.since, lot.number)


def row_without(lots, picks):
    """The lots taken, pick by pick, and the row that is left."""
    # The keys keep the row's order, whatever the picks' order.
    left = dict([(lot.number, lot) for lot in lots])
    taken = []
    for number, pieces in picks:
        lot = left.get(number)
        if lot is None or lot.pieces < pieces:
            raise NoLot(number)
        parts = lot.taken(pieces)
        taken.append(parts[0])
        left[number] = parts[1]
    return (taken, [lot for lot in left.values() if lot is not None])


def pieces_in(lots):
    return sum([lot.pieces for lot in lots])


def cost_in(lots):
    return sum([lot.cost for lot in lots])
