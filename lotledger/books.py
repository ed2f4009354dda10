"""Books: entries are done in order; told are the lots that are left, and what each sell gained."""

from lotledger.entries import Buy, Gift, Give, Parting, Sell, Split
from lotledger.errors import Late, NoLot, NotHeld
from lotledger.held import in_order, place_of
from lotledger.lots import Lot, cost_in, pieces_in, row_with
from lotledger.shares import dealt
from lotledger.splits import row_parted, row_split
from lotledger.ways import gone_from


class Sale:
    """What a book tells of a sell; it is made by books alone."""

    def __init__(self, number, day, ware, proceeds, parts, laid_on):
        self.number = number
        self.day = day
        self.ware = ware
        self.proceeds = proceeds
        self.parts = list(parts)
        self.laid_on = laid_on

    def gain(self):
        return self.proceeds - cost_of_parts(self.parts)

    def counted(self):
        return self.gain() if self.laid_on is None else 0


class Book:
    """The rows of lots that the entries done so far leave, and what became of the other lots."""

    def __init__(self, way):
        self.way = way
        self.rows = {}
        self.last_place = None
        self.paid = 0
        self.brought = 0
        self.sales_done = []
        self.givings_done = []

    def do(self, entry):
        if self.last_place is not None and place_of(entry) <= self.last_place:
            raise Late(entry.number)
        if entry.held_behind(self.held()) is None:
            raise NotHeld(entry.number)
        self.do_by_kind(entry)
        self.last_place = place_of(entry)

    def do_by_kind(self, entry):
        if isinstance(entry, Buy):
            self.do_buy(entry)
        elif isinstance(entry, Gift):
            self.do_gift(entry)
        elif isinstance(entry, Sell):
            self.do_sell(entry)
        elif isinstance(entry, Give):
            self.do_give(entry)
        elif isinstance(entry, Split):
            self.do_split(entry)
        elif isinstance(entry, Parting):
            self.do_parting(entry)

    def do_buy(self, entry):
        cost = entry.cost + self.lay_on(entry)
        self.put(entry.ware, [Lot(entry.number, entry.day, entry.pieces, cost)])
        self.paid = self.paid + entry.cost

    def lay_on(self, entry):
        """The losses that a buy takes: none in a plain book."""
        return 0

    def do_gift(self, entry):
        self.put(entry.ware, [Lot(entry.number, entry.since, entry.pieces, entry.cost)])
        self.brought = self.brought + entry.cost

    def do_sell(self, entry):
        self.sales_done.append(sale_of(entry, self.taken_for(entry)))

    def do_give(self, entry):
        self.givings_done.append((entry.number, self.taken_for(entry)))

    def do_split(self, entry):
        self.keep_row(entry.ware, row_split(self.row_of(entry.ware), entry.many, entry.of))

    def do_parting(self, entry):
        rows = row_parted(self.row_of(entry.ware), entry.share, entry.whole)
        self.keep_row(entry.ware, rows[0])
        self.put(entry.other, rows[1])

    def put(self, ware, lots):
        row = self.row_of(ware)
        for lot in lots:
            row = row_with(row, lot)
        self.keep_row(ware, row)

    def taken_for(self, entry):
        """The lots that go for a sell or a giving; they are out of the row then."""
        try:
            gone = gone_from(self.way, self.row_of(entry.ware), entry.pieces, entry.named)
        except NoLot:
            # A book speaks of entries, so the refusal tells the entry's number, not the lot's.
            raise NoLot(entry.number) from None
        self.keep_row(entry.ware, gone[1])
        return gone[0]

    def keep_row(self, ware, row):
        if len(row) > 0:
            self.rows[ware] = row
        else:
            # Only wares that are held have a row.
            self.rows.pop(ware, None)

    def held(self):
        return dict([(ware, pieces_in(row)) for ware, row in self.rows.items()])

    def row_of(self, ware):
        return list(self.rows.get(ware, []))

    def sales(self):
        return [copy_of_sale(sale) for sale in self.sales_done]

    def given(self):
        return [(number, [lot.told() for lot in lots]) for number, lots in self.givings_done]

    def sums(self):
        return {
            "paid": self.paid,
            "brought": self.brought,
            "laid": sum([-sale.gain() for sale in self.sales_done if sale.laid_on is not None]),
            "sold": sum([cost_of_parts(sale.parts) for sale in self.sales_done]),
            "given": sum([cost_in(lots) for number, lots in self.givings_done]),
            "left": sum([cost_in(row) for row in self.rows.values()]),
            "proceeds": sum([sale.proceeds for sale in self.sales_done]),
        }


def sale_of(entry, lots):
    """The sale of a sell for which these lots were taken."""
    shares = dealt(entry.proceeds, [lot.pieces for lot in lots])
    parts = [(lot.number, lot.since, lot.pieces, lot.cost, share) for lot, share in zip(lots, shares)]
    return Sale(entry.number, entry.day, entry.ware, entry.proceeds, parts, None)


def copy_of_sale(sale):
    return Sale(sale.number, sale.day, sale.ware, sale.proceeds, sale.parts, sale.laid_on)


def cost_of_parts(parts):
    return sum([cost for lot, since, pieces, cost, share in parts])


def book_of(way, entries):
    """A book that has done the entries in order."""
    return with_all_done(Book(way), entries)


def with_all_done(book, entries):
    for entry in in_order(entries):
        book.do(entry)
    return book
