"""Splits and partings of rows."""

from lotledger.errors import NoPieces
from lotledger.lots import Lot
from lotledger.shares import part_of


def row_split(lots, many, of):
    """The row when many pieces have come of each so many."""
    if len(lots) == 0:
        return []
    row = []
    cost_of_gone = 0
    for lot, pieces in zip(lots, pieces_split(lots, many, of)):
        if pieces == 0:
            cost_of_gone = cost_of_gone + lot.cost
        else:
            row.append(Lot(lot.number, lot.since, pieces, lot.cost + cost_of_gone))
            cost_of_gone = 0
    if len(row) == 0:
        raise NoPieces("no lot would have a piece")
    # What no lot behind could take goes to the last one that has some.
    last = row.pop()
    row.append(last.with_more(0, cost_of_gone))
    return row


def pieces_split(lots, many, of):
    """The pieces that each lot has behind the split, perhaps none."""
    counts = []
    pieces_till_here = 0
    split_till_here = 0
    for lot in lots:
        # Only the first so many together are rounded, so that the row has what a single lot would have.
        pieces_till_here = pieces_till_here + lot.pieces
        split_with_it = pieces_till_here * many // of
        counts.append(split_with_it - split_till_here)
        split_till_here = split_with_it
    return counts


def row_parted(lots, share, whole):
    """The row that goes on, and the second row, which has the share of each lot's cost."""
    parts = [part_of(lot.cost, share, whole) for lot in lots]
    going_on = [Lot(lot.number, lot.since, lot.pieces, lot.cost - part) for lot, part in zip(lots, parts)]
    second = [Lot(lot.number, lot.since, lot.pieces, part) for lot, part in zip(lots, parts)]
    return (going_on, second)
