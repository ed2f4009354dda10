"""Point 23: gains part by part, between days, and till a day."""

import inspect
import unittest

from lotledger.books import Book, book_of
from lotledger.entries import Buy, Gift, Give, Parting, Sell, Split
from lotledger.gains import gain_rows, gain_till, gains_between
from lotledger.laying import LayingBook, laying_book_of
from lotledger.ways import Dearest, Eldest, Mean, Newest
from helper import all_told


def entries():
    """Three sales of two wares: on day 10 out of lots since 0, 2 and 6, on 12 since 3, on 20 since 6."""
    return [
        Buy(2, 2, "tin", 3, 5),
        Buy(3, 3, "ore", 4, 2),
        Gift(5, 5, "tin", 2, 9, 0),
        Buy(6, 6, "tin", 4, 7),
        Sell(10, 8, "tin", 6, 6, 1),
        Sell(12, 4, "ore", 2, 1),
        Give(13, 9, "ore", 1),
        Sell(20, 7, "tin", 2, 10),
        Buy(21, 10, "tin", 1, 4),
    ]


# 35 dealt by 2, 3 and 1: 11, 18 and 6; the lots' costs are 9, 15 and 7.
GAINS = [(8, 5, 2, 2), (8, 2, 3, 3), (8, 6, 1, -1), (4, 3, 2, -2), (7, 6, 2, 6)]


def rows_with(kinds, gains=GAINS):
    return [(sell, lot, pieces, kind, gain) for (sell, lot, pieces, gain), kind in zip(gains, kinds)]


class Interface(unittest.TestCase):
    def test_arguments(self):
        asked = ((gain_rows, "(book, long)"), (gains_between, "(book, long, first, last)"), (gain_till, "(book, day)"))
        for function, arguments in asked:
            with self.subTest(function.__name__):
                self.assertEqual(str(inspect.signature(function)), arguments)


class GainRows(unittest.TestCase):
    def assert_kinds(self, long, *kinds):
        with self.subTest(long=long):
            self.assertEqual(gain_rows(book_of(Eldest(), entries()), long), rows_with(kinds))

    def test_sale_by_sale_and_part_by_part_long_and_short(self):
        # They were held for 10, 8, 4, 9 and 14 days.
        self.assert_kinds(4, "long", "long", "long", "long", "long")
        self.assert_kinds(5, "long", "long", "short", "long", "long")
        self.assert_kinds(8, "long", "long", "short", "long", "long")
        self.assert_kinds(9, "long", "short", "short", "long", "long")
        self.assert_kinds(10, "long", "short", "short", "short", "long")
        self.assert_kinds(11, "short", "short", "short", "short", "long")
        self.assert_kinds(14, "short", "short", "short", "short", "long")
        self.assert_kinds(15, "short", "short", "short", "short", "short")
        self.assert_kinds(10 ** 6, "short", "short", "short", "short", "short")

    def test_with_0_days_all_is_long(self):
        self.assert_kinds(0, "long", "long", "long", "long", "long")
        book = book_of(Eldest(), [Buy(5, 1, "tin", 1, 4), Sell(5, 2, "tin", 1, 5)])
        self.assertEqual(gain_rows(book, 0), [(2, 1, 1, "long", 1)])
        self.assertEqual(gain_rows(book, 1), [(2, 1, 1, "short", 1)])

    def test_the_most_days(self):
        book = book_of(Eldest(), [Buy(0, 1, "tin", 1, 4), Buy(1, 2, "tin", 1, 4), Sell(10 ** 6, 3, "tin", 2, 4)])
        self.assertEqual(gain_rows(book, 10 ** 6), [(3, 1, 1, "long", 0), (3, 2, 1, "short", 0)])

    def test_since_counts_and_not_the_gifts_day(self):
        book = book_of(Eldest(), [Gift(9, 1, "tin", 1, 4, 3), Sell(10, 2, "tin", 1, 5)])
        self.assertEqual(gain_rows(book, 7), [(2, 1, 1, "long", 1)])
        self.assertEqual(gain_rows(book, 8), [(2, 1, 1, "short", 1)])

    def test_split_and_parted_lots_keep_their_since(self):
        book = book_of(Eldest(), [Buy(1, 1, "tin", 2, 6), Split(4, 2, "tin", 2, 1), Parting(5, 3, "tin", "ore", 1, 2),
                                  Sell(6, 4, "ore", 4, 1)])
        self.assertEqual(gain_rows(book, 5), [(4, 1, 4, "long", -2)])
        self.assertEqual(gain_rows(book, 6), [(4, 1, 4, "short", -2)])

    def test_in_the_order_taken(self):
        self.assertEqual([row[1] for row in gain_rows(book_of(Newest(), entries()), 0)], [6, 2, 3, 2, 5])
        self.assertEqual([row[1] for row in gain_rows(book_of(Dearest(), entries()), 0)], [6, 2, 3, 2, 5])
        named = Sell(10, 8, "tin", 6, 6, 1, [(2, 3), (5, 1), (6, 2)])
        book = book_of(Eldest(), [named if entry.number == 8 else entry for entry in entries()])
        self.assertEqual([row[1] for row in gain_rows(book, 0)], [2, 5, 6, 3, 5, 6])

    def test_without_sales(self):
        self.assertEqual(gain_rows(Book(Eldest()), 5), [])
        self.assertEqual(gain_rows(book_of(Eldest(), entries()[:4]), 5), [])
        self.assertEqual(gain_rows(LayingBook(Eldest(), 3), 5), [])

    def test_laid_sales_have_gains_of_0(self):
        # The loss of number 4 is laid on the buy of number 11; number 8 gains, and loses in one part alone.
        book = laying_book_of(Eldest(), 5, entries() + [Buy(14, 11, "ore", 1, 1)])
        kinds = ("long", "long", "short", "long", "long")
        laid = GAINS[:3] + [(4, 3, 2, 0)] + GAINS[4:]
        self.assertEqual(gain_rows(book, 5), rows_with(kinds, laid))

    def test_each_part_of_a_laid_sale_has_0(self):
        history = [Buy(1, 1, "tin", 1, 9), Buy(2, 2, "tin", 1, 1), Sell(3, 3, "tin", 2, 4), Buy(4, 0, "tin", 1, 1)]
        self.assertEqual(gain_rows(book_of(Eldest(), history), 2), [(3, 1, 1, "long", -5), (3, 2, 1, "short", 3)])
        self.assertEqual(gain_rows(laying_book_of(Eldest(), 0, history), 2),
                         [(3, 1, 1, "long", -5), (3, 2, 1, "short", 3)])
        self.assertEqual(gain_rows(laying_book_of(Eldest(), 1, history), 2),
                         [(3, 1, 1, "long", 0), (3, 2, 1, "short", 0)])

    def test_the_parts_gains_come_to_the_counted_gain(self):
        for book in (book_of(Mean(), entries()), laying_book_of(Mean(), 5, entries() + [Buy(14, 11, "ore", 1, 1)])):
            for sale in book.sales():
                gains = [row[4] for row in gain_rows(book, 5) if row[0] == sale.number]
                self.assertEqual(sum(gains), sale.counted())

    def test_it_is_the_askers_own(self):
        book = book_of(Eldest(), entries())
        before = all_told(book)
        rows = gain_rows(book, 5)
        self.assertIs(type(rows), list)
        self.assertTrue(all(type(row) is tuple for row in rows))
        kept = list(rows)
        book.do(Sell(22, 0, "tin", 2, 10))
        self.assertEqual(rows, kept)
        self.assertEqual(len(gain_rows(book, 5)), 7)
        book = book_of(Eldest(), entries())
        gain_rows(book, 5).clear()
        self.assertEqual(gain_rows(book, 5), kept)
        self.assertEqual(all_told(book), before)


class GainsBetween(unittest.TestCase):
    def assert_gains(self, long, first, last, short_gain, long_gain):
        with self.subTest(long=long, first=first, last=last):
            told = gains_between(book_of(Eldest(), entries()), long, first, last)
            self.assertEqual(told, {"short": short_gain, "long": long_gain})

    def test_all_days(self):
        self.assert_gains(0, 0, 10 ** 6, 0, 8)
        self.assert_gains(5, 0, 10 ** 6, -1, 9)
        self.assert_gains(9, 0, 10 ** 6, 2, 6)
        self.assert_gains(10 ** 6, 0, 10 ** 6, 8, 0)

    def test_the_days_at_both_ends(self):
        self.assert_gains(5, 10, 20, -1, 9)
        self.assert_gains(5, 11, 20, 0, 4)
        self.assert_gains(5, 10, 19, -1, 3)
        self.assert_gains(5, 12, 12, 0, -2)
        self.assert_gains(5, 10, 10, -1, 5)
        self.assert_gains(5, 20, 20, 0, 6)

    def test_none_between(self):
        self.assert_gains(5, 0, 9, 0, 0)
        self.assert_gains(5, 13, 19, 0, 0)
        self.assert_gains(5, 21, 10 ** 6, 0, 0)
        self.assert_gains(5, 20, 10, 0, 0)
        self.assertEqual(gains_between(Book(Eldest()), 5, 0, 10), {"short": 0, "long": 0})

    def test_laid_sales_count_0(self):
        history = entries() + [Buy(14, 11, "ore", 1, 1)]
        self.assertEqual(gains_between(book_of(Eldest(), history), 5, 10, 12), {"short": -1, "long": 3})
        self.assertEqual(gains_between(laying_book_of(Eldest(), 1, history), 5, 10, 12), {"short": -1, "long": 3})
        self.assertEqual(gains_between(laying_book_of(Eldest(), 2, history), 5, 10, 12), {"short": -1, "long": 5})

    def test_it_is_the_askers_own(self):
        book = book_of(Eldest(), entries())
        told = gains_between(book, 5, 0, 20)
        self.assertIs(type(told), dict)
        book.do(Sell(22, 0, "tin", 2, 10))
        self.assertEqual(told, {"short": -1, "long": 9})
        told.clear()
        self.assertEqual(gains_between(book, 5, 0, 20), {"short": -1, "long": 9})


class GainTill(unittest.TestCase):
    def test_ahead_of_on_and_behind_a_sales_day(self):
        book = book_of(Eldest(), entries())
        asked = ((0, 0), (9, 0), (10, 4), (11, 4), (12, 2), (13, 2), (19, 2), (20, 8), (21, 8), (10 ** 6, 8))
        for day, gain in asked:
            with self.subTest(day=day):
                self.assertEqual(gain_till(book, day), gain)

    def test_laid_sales_count_0_also_ahead_of_the_buys_day(self):
        book = laying_book_of(Eldest(), 5, entries() + [Buy(14, 11, "ore", 1, 1)])
        for day, gain in ((11, 4), (12, 4), (13, 4), (14, 4), (20, 10)):
            with self.subTest(day=day):
                self.assertEqual(gain_till(book, day), gain)

    def test_without_sales(self):
        for book in (Book(Eldest()), LayingBook(Eldest(), 5), book_of(Eldest(), entries()[:4])):
            self.assertEqual(gain_till(book, 10 ** 6), 0)

    def test_several_sales_on_one_day(self):
        book = book_of(Eldest(), [Buy(1, 1, "tin", 3, 5), Sell(4, 2, "tin", 1, 9), Sell(4, 3, "tin", 1, 3)])
        self.assertEqual((gain_till(book, 3), gain_till(book, 4)), (0, 2))


if __name__ == "__main__":
    unittest.main()
