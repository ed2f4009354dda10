"""Laying books: a loss is laid on a lot of its ware that is bought again soon."""

from lotledger.books import Book, Sale, with_all_done


class LayingBook(Book):
    """A book in which a buy takes the losses of its ware that are no more than so many days old."""

    def __init__(self, way, days):
        Book.__init__(self, way)
        self.days = days
        self.layings = []

    def lay_on(self, entry):
        """Lay on a buy all losses that it may take; told is their sum."""
        taken = [sale for sale in self.sales_done if self.may_take(entry, sale)]
        self.layings.extend([(sale.number, entry.number, -sale.gain()) for sale in taken])
        # A sale that was told ahead of this stays as it was told, so the kept ones are not changed but replaced.
        self.sales_done = [
            sale_laid_on(sale, entry.number) if self.may_take(entry, sale) else sale for sale in self.sales_done
        ]
        return sum([-sale.gain() for sale in taken])

    def may_take(self, entry, sale):
        return is_open_loss(sale) and sale.ware == entry.ware and entry.day - sale.day <= self.days

    def laid(self):
        return list(self.layings)


def is_open_loss(sale):
    return sale.laid_on is None and sale.gain() < 0


def sale_laid_on(sale, number):
    return Sale(sale.number, sale.day, sale.ware, sale.proceeds, sale.parts, number)


def laying_book_of(way, days, entries):
    """A laying book that has done the entries in order."""
    return with_all_done(LayingBook(way, days), entries)
