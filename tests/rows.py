"""Rows of lots written as tuples (number, since, pieces, cost), for the tests."""

from lotledger.lots import Lot


def row(*lots):
    return [Lot(*lot) for lot in lots]


def told(lots):
    return [lot.told() for lot in lots]
