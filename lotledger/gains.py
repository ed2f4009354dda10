"""Gains of a book's sales: part by part, between days, and till a day."""


def gain_rows(book, long):
    """For each part of each sale: the sell, the lot, the pieces, long or short, and the gain."""
    rows = []
    for sale in book.sales():
        rows.extend(rows_of_sale(sale, long))
    return rows


def rows_of_sale(sale, long):
    return [row_of_part(sale, part, long) for part in sale.parts]


def row_of_part(sale, part, long):
    lot = part[0]
    since = part[1]
    pieces = part[2]
    kind = "long" if sale.day - since >= long else "short"
    return (sale.number, lot, pieces, kind, gain_of_part(sale, part))


def gain_of_part(sale, part):
    cost = part[3]
    share = part[4]
    # So the parts' gains come to what the sale counts.
    return share - cost if sale.laid_on is None else 0


def gains_between(book, long, first, last):
    """The sums of the short and of the long parts' gains of the sales on these days."""
    sums = {"short": 0, "long": 0}
    for sale in book.sales():
        if first <= sale.day <= last:
            for number, lot, pieces, kind, gain in rows_of_sale(sale, long):
                sums[kind] = sums[kind] + gain
    return sums


def gain_till(book, day):
    """What all sales no later than the day count together."""
    return sum([sale.counted() for sale in book.sales() if sale.day <= day])
