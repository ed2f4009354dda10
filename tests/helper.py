"""What the tests share: rows of lots written as tuples, and whatever a book tells."""

from lotledger.laying import LayingBook
from lotledger.lots import Lot

WORDS = ("eldest", "newest", "dearest", "mean")
WARES = ("tin", "ore", "zinc")
SUMS = ["paid", "brought", "laid", "sold", "given", "left", "proceeds"]


def row(*lots):
    """A row of lots written as tuples (number, since, pieces, cost)."""
    return [Lot(*lot) for lot in lots]


def told(lots):
    return [lot.told() for lot in lots]


def told_sale(sale):
    return (sale.number, sale.day, sale.ware, sale.proceeds, sale.parts, sale.laid_on, sale.gain(), sale.counted())


def all_told(book):
    """Whatever a book tells, of any ware that the tests speak of."""
    rows = {ware: told(book.row_of(ware)) for ware in WARES}
    laid = book.laid() if isinstance(book, LayingBook) else None
    return (book.held(), rows, [told_sale(sale) for sale in book.sales()], book.given(), book.sums(), laid)


def with_done(book, *entries):
    for entry in entries:
        book.do(entry)
    return book
