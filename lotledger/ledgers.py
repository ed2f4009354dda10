"""Ledgers: entries told in any order, struck and corrected, and books of them."""

from lotledger.books import book_of
from lotledger.entries import entry_that_tells
from lotledger.errors import NoNumber, Twice
from lotledger.held import in_order
from lotledger.laying import laying_book_of


class Ledger:
    """Entries by their numbers."""

    def __init__(self):
        self.by_number = {}

    def enter(self, entry):
        if entry.number in self.by_number:
            raise Twice(entry.number)
        self.by_number[entry.number] = copy_of_entry(entry)

    def strike(self, number):
        self.refuse_missing(number)
        return self.by_number.pop(number)

    def correct(self, entry):
        self.refuse_missing(entry.number)
        stood = self.by_number[entry.number]
        self.by_number[entry.number] = copy_of_entry(entry)
        return stood

    def refuse_missing(self, number):
        if number not in self.by_number:
            raise NoNumber(number)

    def entries(self):
        return in_order([copy_of_entry(entry) for entry in self.by_number.values()])

    def book(self, way, days=None):
        """A book of the entries, a laying one where days are told."""
        if days is None:
            return book_of(way, self.entries())
        return laying_book_of(way, days, self.entries())


def copy_of_entry(entry):
    # An entry holds a list, its named lots: neither the one handed in nor the one told may be the kept one.
    return entry_that_tells(entry.told())
