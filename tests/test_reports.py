"""Point 27: reports of books."""

import itertools
import unittest

from lotledger.books import Book, book_of
from lotledger.entries import Buy, Gift, Give, Parting, Sell, Split
from lotledger.laying import LayingBook, laying_book_of
from lotledger.ledgers import Ledger
from lotledger.sheets import report_of
from lotledger.ways import Dearest, Eldest, Mean, Newest, way_by
from helper import WORDS, all_told


def entries():
    """Two wares with losses and gains; the loss of number 12 may be laid on number 0, two days later."""
    return [
        Buy(1, 7, "zinc", 4, 5),
        Buy(2, 2, "ore", 3, 10, 2),
        Gift(3, 30, "zinc", 6, 90, 0),
        Sell(4, 12, "ore", 2, 3),
        Sell(5, 3, "zinc", 2, 20, 1),
        Buy(6, 0, "ore", 5, 4),
        Sell(7, 100, "zinc", 1, 15),
    ]


class Plain(unittest.TestCase):
    def test_an_empty_book(self):
        self.assertEqual(report_of(Book(Eldest())), "gain 0\n")
        self.assertEqual(report_of(LayingBook(Eldest(), 5)), "gain 0\n")

    def test_sales_then_wares_by_names_then_the_sum(self):
        # The row of zinc: 30 since 0, then 7; of the gift's 90, 30 go with 2 pieces, then 15 with 1.
        self.assertEqual(
            report_of(book_of(Eldest(), entries())),
            "sale 12 -15\n"
            "sale 3 9\n"
            "sale 100 0\n"
            "held ore 6 31 2:1:11 0:5:20\n"
            "held zinc 7 65 30:3:45 7:4:20\n"
            "gain -6\n",
        )

    def test_by_another_way(self):
        self.assertEqual(
            report_of(book_of(Newest(), entries())),
            "sale 12 -15\n"
            "sale 3 29\n"
            "sale 100 10\n"
            "held ore 6 31 2:1:11 0:5:20\n"
            "held zinc 7 95 30:6:90 7:1:5\n"
            "gain 24\n",
        )

    def test_by_mean_the_row_is_told_as_it_is_kept(self):
        self.assertEqual(report_of(book_of(Mean(), [Buy(1, 1, "tin", 1, 9), Buy(2, 2, "tin", 1, 1)])),
                         "held tin 2 10 1:1:9 2:1:1\ngain 0\n")
        book = book_of(Mean(), [Buy(1, 1, "tin", 2, 9), Buy(2, 2, "tin", 1, 1), Give(3, 3, "tin", 1)])
        self.assertEqual(report_of(book), "held tin 2 13 1:1:6 2:1:7\ngain 0\n")

    def test_only_sales(self):
        book = book_of(Eldest(), [Buy(1, 1, "tin", 2, 5), Sell(2, 2, "tin", 2, 0, 7)])
        self.assertEqual(report_of(book), "sale 2 -17\ngain -17\n")

    def test_only_wares(self):
        book = book_of(Eldest(), [Buy(1, 1, "tin", 2, 5), Gift(1, 2, "tin", 1, 0, 0)])
        self.assertEqual(report_of(book), "held tin 3 10 2:1:0 1:2:10\ngain 0\n")

    def test_wares_by_names_and_not_by_when_they_came(self):
        names = ["b", "tin", "a", "zz", "ab", "z", "aa"]
        history = [Buy(day, day, name, 1, 1) for day, name in enumerate(names)]
        rows = report_of(book_of(Eldest(), history)).split("\n")[:-2]
        self.assertEqual([row.split(" ")[1] for row in rows], ["a", "aa", "ab", "b", "tin", "z", "zz"])

    def test_a_ware_of_which_all_went_isnt_there(self):
        book = book_of(Eldest(), [Buy(1, 1, "tin", 2, 5), Buy(1, 2, "ore", 1, 1), Give(2, 3, "tin", 2)])
        self.assertEqual(report_of(book), "held ore 1 1 2:1:1\ngain 0\n")

    def test_split_and_parted(self):
        book = book_of(Eldest(), [Buy(1, 1, "tin", 2, 5), Split(2, 2, "tin", 3, 1), Parting(3, 3, "tin", "ore", 1, 4)])
        self.assertEqual(report_of(book), "held ore 6 2 1:6:2\nheld tin 6 8 1:6:8\ngain 0\n")

    def test_great_numbers(self):
        nine = 10 ** 9
        book = book_of(Eldest(), [Buy(1, 10 ** 6, "tin", nine, nine, nine), Sell(2, 0, "tin", nine - 1, 0, nine)])
        lost = (10 ** 18 + nine) * (nine - 1) // nine
        left = 10 ** 18 + nine - lost
        self.assertEqual(report_of(book), f"sale 0 {-lost - nine}\nheld tin 1 {left} 1000000:1:{left}\n"
                                          f"gain {-lost - nine}\n")


class Laying(unittest.TestCase):
    def test_laid_sales(self):
        self.assertEqual(
            report_of(laying_book_of(Eldest(), 2, entries())),
            "sale 12 0 laid 0\n"
            "sale 3 9\n"
            "sale 100 0\n"
            "held ore 6 46 2:1:11 0:5:35\n"
            "held zinc 7 65 30:3:45 7:4:20\n"
            "gain 9\n",
        )

    def test_where_no_buy_is_soon_enough_as_a_plain_one(self):
        plain = report_of(book_of(Eldest(), entries()))
        for days in (0, 1):
            self.assertEqual(report_of(laying_book_of(Eldest(), days, entries())), plain)

    def test_several_laid_sales(self):
        history = [Buy(1, 1, "tin", 9, 5), Sell(2, 9, "tin", 1, 1), Sell(3, 5, "tin", 1, 2), Buy(4, 6, "tin", 1, 1),
                   Sell(5, 7, "tin", 1, 3)]
        self.assertEqual(report_of(laying_book_of(Eldest(), 5, history)),
                         "sale 9 0 laid 6\nsale 5 0 laid 6\nsale 7 -2\nheld tin 7 38 1:6:30 6:1:8\ngain -2\n")

    def test_a_report_changes_nothing(self):
        for word in WORDS:
            book = laying_book_of(way_by(word), 2, entries())
            before = all_told(book)
            self.assertEqual(report_of(book), report_of(book))
            self.assertEqual(all_told(book), before)

    def test_a_report_told_ahead_stays_and_a_later_one_goes_on(self):
        book = laying_book_of(Dearest(), 2, entries()[:5])
        early = report_of(book)
        for entry in entries()[5:]:
            book.do(entry)
        self.assertTrue(early.startswith("sale 12 -15\n"))
        self.assertEqual(report_of(book), report_of(laying_book_of(Dearest(), 2, entries())))

    def test_of_a_ledgers_books_in_any_order_of_entries(self):
        for mixed in itertools.islice(itertools.permutations(entries()), 0, 5040, 37):
            ledger = Ledger()
            for entry in mixed:
                ledger.enter(entry)
            self.assertEqual(report_of(ledger.book(Eldest())), report_of(book_of(Eldest(), entries())))
            self.assertEqual(report_of(ledger.book(Eldest(), 2)), report_of(laying_book_of(Eldest(), 2, entries())))


if __name__ == "__main__":
    unittest.main()
