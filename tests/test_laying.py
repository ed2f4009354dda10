"""Points 21 and 22, and 19 and 20 as far as losses laid touch them: laying books."""

import inspect
import itertools
import unittest

from lotledger.books import Book, Sale
from lotledger.entries import Buy, Gift, Give, Parting, Sell, Split
from lotledger.errors import Late, NoLot, NotHeld, Twice
from lotledger.laying import LayingBook, laying_book_of
from lotledger.ways import Dearest, Eldest, Mean, Newest, way_by
from helper import SUMS, WORDS, all_told, told, told_sale, with_done


def done(days, *entries):
    return with_done(LayingBook(Eldest(), days), *entries)


def with_loss(day=10, number=20, ware="tin"):
    """Ten pieces for 50, of which four are sold for 12: a loss of 8."""
    return [Buy(1, number - 10, ware, 10, 5), Sell(day, number, ware, 4, 3)]


def history():
    """Losses of two wares, laid and not, and every kind of entry; by the eldest way, with 5 days."""
    return [
        Buy(1, 1, "tin", 10, 5),
        Buy(1, 2, "ore", 6, 4, 3),
        Sell(3, 3, "tin", 4, 3),
        Sell(4, 4, "ore", 2, 1),
        Gift(5, 5, "tin", 2, 9, 0),
        Sell(5, 6, "tin", 2, 1, 4),
        Buy(7, 7, "tin", 3, 6, 1),
        Split(8, 8, "tin", 3, 2),
        Parting(8, 9, "tin", "ore", 1, 3),
        Buy(9, 10, "ore", 1, 2),
        Give(10, 11, "tin", 3),
        Sell(11, 12, "ore", 4, 0),
        Buy(17, 13, "ore", 4, 1),
    ]


class Interface(unittest.TestCase):
    def test_arguments(self):
        asked = (
            (LayingBook, "(way, days)"), (LayingBook.laid, "(self)"), (laying_book_of, "(way, days, entries)"),
            (LayingBook.do, "(self, entry)"), (LayingBook.sums, "(self)"),
        )
        for function, arguments in asked:
            with self.subTest(function.__qualname__):
                self.assertEqual(str(inspect.signature(function)), arguments)

    def test_it_stands_under_book(self):
        self.assertTrue(issubclass(LayingBook, Book))

    def test_it_has_a_way_and_days(self):
        way = Newest()
        book = LayingBook(way, 30)
        self.assertEqual((book.way.word(), book.days), ("newest", 30))

    def test_a_new_book(self):
        book = LayingBook(Eldest(), 7)
        self.assertEqual((book.held(), book.row_of("tin")), ({}, []))
        self.assertEqual((book.sales(), book.given(), book.laid()), ([], [], []))
        self.assertEqual(book.sums(), dict.fromkeys(SUMS, 0))

    def test_do_tells_none(self):
        book = LayingBook(Eldest(), 5)
        self.assertEqual([book.do(entry) for entry in history()], [None] * 13)


class WhoTakesALoss(unittest.TestCase):
    def assert_laid(self, days, entries, asked):
        """Which buys the losses are laid on, as told by the sales and by laid()."""
        with self.subTest(days=days, entries=[entry.told() for entry in entries]):
            book = done(days, *entries)
            self.assertEqual(book.laid(), asked)
            by_sell = {sell: buy for sell, buy, _ in asked}
            self.assertEqual([sale.laid_on for sale in book.sales()],
                             [by_sell.get(sale.number) for sale in book.sales()])
            self.assertEqual(book.sums()["laid"], sum(loss for _, _, loss in asked))

    def test_the_last_of_the_days_and_the_day_behind(self):
        for days in (0, 1, 2, 30, 999):
            on_the_last = Buy(10 + days, 21, "tin", 1, 1)
            on_the_day_behind = Buy(11 + days, 21, "tin", 1, 1)
            self.assert_laid(days, with_loss() + [on_the_last], [(20, 21, 8)])
            self.assert_laid(days, with_loss() + [on_the_day_behind], [])

    def test_the_very_day(self):
        for days in (0, 1, 10 ** 6):
            self.assert_laid(days, with_loss() + [Buy(10, 21, "tin", 1, 1)], [(20, 21, 8)])

    def test_the_most_days(self):
        entries = [Buy(0, 1, "tin", 10, 5), Sell(0, 2, "tin", 4, 3), Buy(10 ** 6, 3, "tin", 1, 1)]
        self.assert_laid(10 ** 6, entries, [(2, 3, 8)])
        self.assert_laid(10 ** 6 - 1, entries, [])

    def test_the_day_counts_and_not_the_number(self):
        self.assert_laid(5, with_loss() + [Buy(15, 3, "tin", 1, 1)], [(20, 3, 8)])
        self.assert_laid(5, with_loss() + [Buy(15, 10 ** 6, "tin", 1, 1)], [(20, 10 ** 6, 8)])

    def test_a_buy_of_number_0(self):
        book = done(5, *with_loss(), Buy(15, 0, "tin", 1, 1))
        sale = book.sales()[0]
        self.assertEqual((sale.laid_on, sale.gain(), sale.counted()), (0, -8, 0))
        self.assertEqual(book.laid(), [(20, 0, 8)])
        self.assertEqual(book.sums()["laid"], 8)
        book.do(Buy(15, 1, "tin", 1, 1))
        self.assertEqual(book.laid(), [(20, 0, 8)])

    def test_not_a_gift(self):
        gift = Gift(10, 21, "tin", 3, 40, 10)
        self.assert_laid(5, with_loss() + [gift], [])
        self.assertEqual(told(done(5, *with_loss(), gift).row_of("tin")), [(10, 1, 6, 30), (21, 10, 3, 40)])
        # It stays open for a buy behind the gift.
        self.assert_laid(5, with_loss() + [gift, Buy(11, 22, "tin", 1, 1)], [(20, 22, 8)])

    def test_not_a_buy_of_another_ware(self):
        other = Buy(10, 21, "ore", 1, 1)
        self.assert_laid(5, with_loss() + [other], [])
        self.assertEqual(told(done(5, *with_loss(), other).row_of("ore")), [(21, 10, 1, 1)])
        self.assert_laid(5, with_loss() + [other, Buy(11, 22, "tin", 1, 1)], [(20, 22, 8)])

    def test_not_a_buy_ahead_of_it(self):
        for ahead in (Buy(9, 30, "tin", 1, 1), Buy(10, 19, "tin", 1, 1)):
            self.assert_laid(10 ** 6, [with_loss()[0], ahead, with_loss()[1]], [])
            self.assert_laid(10 ** 6, [with_loss()[0], ahead, with_loss()[1], Buy(12, 31, "tin", 1, 1)], [(20, 31, 8)])

    def test_no_other_kind(self):
        between = [Split(10, 21, "tin", 3, 2), Give(10, 22, "tin", 1), Parting(11, 23, "tin", "ore", 1, 2),
                   Parting(11, 24, "ore", "tin", 1, 2)]
        for many in range(5):
            self.assert_laid(5, with_loss() + between[:many], [])
            self.assert_laid(5, with_loss() + between[:many] + [Buy(12, 30, "tin", 1, 1)], [(20, 30, 8)])

    def test_the_first_buy_alone(self):
        buys = [Buy(11, 21, "tin", 2, 1), Buy(12, 22, "tin", 2, 1)]
        self.assert_laid(5, with_loss() + buys, [(20, 21, 8)])
        self.assertEqual(told(done(5, *with_loss(), *buys).row_of("tin"))[1:], [(21, 11, 2, 10), (22, 12, 2, 2)])

    def test_where_all_was_sold(self):
        self.assert_laid(5, [Buy(1, 1, "tin", 2, 5), Sell(2, 2, "tin", 2, 1), Buy(3, 3, "tin", 2, 1)], [(2, 3, 8)])

    def test_several_by_one_buy_in_the_sells_order(self):
        entries = [Buy(1, 1, "tin", 10, 5), Sell(2, 9, "tin", 1, 0), Sell(3, 4, "tin", 2, 4), Sell(3, 7, "tin", 3, 3)]
        self.assert_laid(5, entries + [Buy(4, 2, "tin", 1, 7)], [(9, 2, 5), (4, 2, 2), (7, 2, 6)])
        book = done(5, *entries, Buy(4, 2, "tin", 1, 7))
        self.assertEqual(told(book.row_of("tin")), [(1, 1, 4, 20), (2, 4, 1, 20)])

    def test_of_several_only_those_within_the_days(self):
        entries = [Buy(1, 1, "tin", 10, 5), Sell(2, 9, "tin", 1, 0), Sell(3, 4, "tin", 2, 4), Sell(5, 7, "tin", 3, 3)]
        asked = [(9, 2, 5), (4, 2, 2), (7, 2, 6)]
        for days, first in ((4, 0), (3, 1), (2, 2), (1, 2), (0, 3)):
            self.assert_laid(days, entries + [Buy(6, 2, "tin", 1, 7)], asked[first:])

    def test_one_that_is_too_old_is_never_laid(self):
        entries = with_loss() + [Buy(16, 21, "tin", 1, 1), Buy(17, 22, "tin", 1, 1)]
        self.assert_laid(5, entries, [])
        self.assertEqual(done(5, *entries).sales()[0].counted(), -8)

    def test_each_ware_has_its_own_losses(self):
        entries = with_loss(5, 20, "tin") + [Buy(6, 1, "ore", 10, 5), Sell(7, 2, "ore", 1, 2), Buy(8, 3, "ore", 1, 1),
                                             Buy(9, 4, "tin", 1, 1)]
        self.assert_laid(5, entries, [(2, 3, 3), (20, 4, 8)])

    def test_in_the_order_in_which_they_were_laid(self):
        # The sells' order is 20, 2; the buys' order turns it.
        entries = with_loss(5, 20, "tin") + [Buy(6, 1, "ore", 10, 5), Sell(7, 2, "ore", 1, 2), Buy(7, 9, "ore", 1, 1),
                                             Sell(8, 3, "ore", 9, 4), Buy(8, 4, "tin", 1, 1), Buy(9, 0, "ore", 1, 1)]
        self.assert_laid(5, entries, [(2, 9, 3), (20, 4, 8), (3, 0, 9)])


class WhatIsALoss(unittest.TestCase):
    def sold_for(self, price, fee):
        """Four pieces that cost 22 are sold, and one is bought again."""
        return done(5, Buy(1, 1, "tin", 4, 5, 2), Sell(2, 2, "tin", 4, price, fee), Buy(3, 3, "tin", 1, 7))

    def test_a_gain_and_a_gain_of_0_are_never_laid(self):
        for price, fee, gain in ((6, 0, 2), (6, 1, 1), (6, 2, 0), (10 ** 9, 0, 4 * 10 ** 9 - 22)):
            book = self.sold_for(price, fee)
            sale = book.sales()[0]
            self.assertEqual((sale.gain(), sale.counted(), sale.laid_on), (gain, gain, None))
            self.assertEqual((book.laid(), book.sums()["laid"]), ([], 0))
            self.assertEqual(told(book.row_of("tin")), [(3, 3, 1, 7)])

    def test_any_loss_is_laid_whole(self):
        # Proceeds below 0 make a loss that is greater than the costs.
        for price, fee, loss in ((6, 3, 1), (5, 0, 2), (0, 0, 22), (0, 10, 32), (0, 10 ** 9, 10 ** 9 + 22)):
            book = self.sold_for(price, fee)
            sale = book.sales()[0]
            self.assertEqual((sale.gain(), sale.counted(), sale.laid_on), (-loss, 0, 3))
            self.assertEqual((book.laid(), book.sums()["laid"]), ([(2, 3, loss)], loss))
            self.assertEqual(told(book.row_of("tin")), [(3, 3, 1, 7 + loss)])

    def test_the_sale_as_a_whole_counts_and_not_its_parts(self):
        ahead = [Buy(1, 1, "tin", 1, 9), Buy(2, 2, "tin", 1, 1)]
        again = Buy(4, 4, "tin", 1, 1)
        # One part loses, the other gains as much, or less.
        self.assertEqual(done(5, *ahead, Sell(3, 3, "tin", 2, 5), again).laid(), [])
        self.assertEqual(done(5, *ahead, Sell(3, 3, "tin", 2, 5, 1), again).laid(), [(3, 4, 1)])

    def test_what_is_given_away_is_no_loss(self):
        book = done(5, Buy(1, 1, "tin", 4, 5), Give(2, 2, "tin", 4), Buy(3, 3, "tin", 1, 7))
        self.assertEqual((book.laid(), told(book.row_of("tin"))), ([], [(3, 3, 1, 7)]))


class WhatALaidLossDoes(unittest.TestCase):
    def test_the_lot_has_it_added_and_the_sums_tell_it(self):
        book = done(5, *with_loss(), Buy(12, 21, "tin", 3, 6, 1))
        self.assertEqual(told(book.row_of("tin")), [(10, 1, 6, 30), (21, 12, 3, 27)])
        self.assertEqual(book.held(), {"tin": 9})
        self.assertEqual(book.sums(), {"paid": 69, "brought": 0, "laid": 8, "sold": 20, "given": 0, "left": 57,
                                       "proceeds": 12})

    def test_the_sale_keeps_all_else(self):
        book = done(5, *with_loss())
        self.assertEqual([told_sale(sale) for sale in book.sales()],
                         [(20, 10, "tin", 12, [(10, 1, 4, 20, 12)], None, -8, -8)])
        book.do(Buy(12, 21, "tin", 3, 6, 1))
        self.assertEqual([told_sale(sale) for sale in book.sales()],
                         [(20, 10, "tin", 12, [(10, 1, 4, 20, 12)], 21, -8, 0)])

    def test_what_was_lost_is_told_when_the_lot_goes(self):
        book = done(5, *with_loss(), Buy(12, 21, "tin", 3, 6, 1), Sell(13, 22, "tin", 9, 9))
        sale = book.sales()[1]
        self.assertEqual(sale.parts, [(10, 1, 6, 30, 54), (21, 12, 3, 27, 27)])
        self.assertEqual([sale.counted() for sale in book.sales()], [0, 24])
        plain = with_done(Book(Eldest()), *with_loss(), Buy(12, 21, "tin", 3, 6, 1), Sell(13, 22, "tin", 9, 9))
        self.assertEqual([sale.counted() for sale in plain.sales()], [-8, 32])

    def test_a_laid_loss_may_be_lost_and_laid_again(self):
        book = done(1, Buy(1, 1, "tin", 2, 5), Sell(2, 2, "tin", 2, 1), Buy(3, 3, "tin", 2, 1), Sell(4, 4, "tin", 2, 1),
                    Buy(5, 5, "tin", 2, 1))
        self.assertEqual(book.laid(), [(2, 3, 8), (4, 5, 8)])
        self.assertEqual(told(book.row_of("tin")), [(5, 5, 2, 10)])
        self.assertEqual(book.sums(), {"paid": 14, "brought": 0, "laid": 16, "sold": 20, "given": 0, "left": 10,
                                       "proceeds": 4})
        self.assertEqual([sale.counted() for sale in book.sales()], [0, 0])

    def test_the_way_sees_the_cost_with_the_loss(self):
        entries = with_loss() + [Buy(12, 21, "tin", 3, 3), Sell(13, 22, "tin", 1, 9)]
        # The lots are (10, 1, 6, 30) and (21, 12, 3, 17), of which the second is dearer now.
        asked = ((Eldest(), (10, 1, 1, 5, 9)), (Newest(), (21, 12, 1, 5, 9)), (Dearest(), (21, 12, 1, 5, 9)),
                 (Mean(), (10, 1, 1, 5, 9)))
        for way, part in asked:
            with self.subTest(way.word()):
                self.assertEqual(with_done(LayingBook(way, 5), *entries).sales()[1].parts, [part])
        # All costs are 47, of which the first 6 pieces of 9 have 31.
        book = with_done(LayingBook(Mean(), 5), *entries)
        self.assertEqual(told(book.row_of("tin")), [(10, 1, 5, 26), (21, 12, 3, 16)])

    def test_the_sums_come_to_one_another_behind_each_entry(self):
        for word, days in itertools.product(WORDS, (0, 1, 2, 5, 6, 10 ** 6)):
            book = LayingBook(way_by(word), days)
            for entry in history():
                book.do(entry)
                sums = book.sums()
                self.assertEqual(sorted(sums), sorted(SUMS))
                self.assertEqual(sums["paid"] + sums["brought"] + sums["laid"],
                                 sums["sold"] + sums["given"] + sums["left"])

    def test_a_whole_history(self):
        book = done(5, *history())
        # Tin: what cost 20 goes for 12, and the gift, which cost 9, for -2; ore: what cost 9 goes for 2.
        self.assertEqual(book.laid(), [(3, 7, 8), (6, 7, 11), (4, 10, 7)])
        self.assertEqual([sale.laid_on for sale in book.sales()], [7, 10, 7, None])
        self.assertEqual([sale.number for sale in book.sales()], [3, 4, 6, 12])
        self.assertEqual(book.sums()["laid"], 26)

    def test_without_a_loss_it_goes_as_a_plain_book(self):
        entries = [Buy(1, 1, "tin", 4, 5), Gift(1, 2, "tin", 4, 5, 0), Sell(2, 3, "tin", 5, 9),
                   Split(3, 4, "tin", 1, 2), Buy(4, 5, "tin", 4, 5), Parting(5, 6, "tin", "ore", 1, 2),
                   Give(6, 7, "ore", 2), Sell(7, 8, "ore", 2, 9)]
        for word in WORDS:
            book = with_done(LayingBook(way_by(word), 10 ** 6), *entries)
            self.assertEqual(all_told(book)[:-1], all_told(with_done(Book(way_by(word)), *entries))[:-1])
            self.assertEqual(book.laid(), [])


class Refused(unittest.TestCase):
    def assert_refused(self, error, entry):
        for word in WORDS:
            book = with_done(LayingBook(way_by(word), 5), *with_loss())
            before = all_told(book)
            with self.subTest(error.__name__, entry=entry.told(), word=word):
                with self.assertRaises(error) as refused:
                    book.do(entry)
                self.assertIs(type(refused.exception), error)
                self.assertEqual(refused.exception.number, entry.number)
                self.assertEqual(all_told(book), before)
            # The loss is still open, once, and what was refused isn't the last that was done.
            with_done(book, Buy(10, 21, "tin", 1, 2), Buy(10, 22, "tin", 1, 2))
            self.assertEqual(book.laid(), [(20, 21, 8)])
            self.assertEqual(told(book.row_of("tin"))[1:], [(21, 10, 1, 10), (22, 10, 1, 2)])

    def test_late(self):
        for day, number in ((10, 20), (10, 19), (9, 30), (0, 0)):
            self.assert_refused(Late, Buy(day, number, "tin", 1, 1))
            self.assert_refused(Late, Sell(day, number, "tin", 1, 1))
            self.assert_refused(Late, Gift(day, number, "tin", 1, 1, 0))

    def test_not_held(self):
        for entry in (Sell(11, 30, "tin", 7, 1), Give(11, 30, "tin", 7), Sell(11, 30, "ore", 1, 1),
                      Split(11, 30, "tin", 1, 7)):
            self.assert_refused(NotHeld, entry)

    def test_no_lot(self):
        for named in ([(9, 1)], [(10, 1), (20, 1)], [(10, 5), (9, 1)]):
            pieces = sum(pick[1] for pick in named)
            self.assert_refused(NoLot, Sell(11, 30, "tin", pieces, 0, 5, named))
            self.assert_refused(NoLot, Give(11, 30, "tin", pieces, named))

    def test_which_goes_first(self):
        self.assert_refused(Late, Sell(10, 3, "tin", 7, 1, 0, [(99, 7)]))
        self.assert_refused(Late, Give(10, 3, "tin", 1, [(99, 1)]))
        self.assert_refused(NotHeld, Sell(11, 3, "tin", 7, 1, 0, [(99, 7)]))


class WhatIsTold(unittest.TestCase):
    def test_sales_told_ahead_of_a_laying_stay_as_they_were_told(self):
        book = LayingBook(Eldest(), 5)
        kept = []
        for entry in history():
            book.do(entry)
            kept.append((book.sales(), [told_sale(sale) for sale in book.sales()], book.laid(), list(book.laid()),
                         book.sums(), dict(book.sums())))
        for sales, old_sales, laid, old_laid, sums, old_sums in kept:
            self.assertEqual([told_sale(sale) for sale in sales], old_sales)
            self.assertEqual((laid, sums), (old_laid, old_sums))
        self.assertEqual([sale.laid_on for sale in kept[5][0]], [None, None, None])
        self.assertEqual([sale.laid_on for sale in kept[6][0]], [7, None, 7])

    def test_what_the_asker_does_to_it_changes_no_later_answer(self):
        book = done(5, *history()[:7])
        before = all_told(book)
        book.laid().clear()
        book.laid().append((1, 2, 3))
        sales = book.sales()
        sales[0].laid_on = None
        sales[1].laid_on = 7
        sales[1].parts.clear()
        sales[2].proceeds = 99
        sales.clear()
        book.sums()["laid"] = 0
        self.assertEqual(all_told(book), before)
        with_done(book, *history()[7:])
        self.assertEqual(all_told(book), all_told(done(5, *history())))

    def test_a_told_open_loss_may_be_changed_ahead_of_the_laying(self):
        book = done(5, *with_loss())
        sale = book.sales()[0]
        sale.proceeds = 10 ** 6
        sale.ware = "ore"
        sale.laid_on = 1
        book.do(Buy(11, 21, "tin", 1, 1))
        self.assertEqual(book.laid(), [(20, 21, 8)])

    def test_kinds(self):
        book = done(5, *history())
        self.assertIs(type(book.laid()), list)
        self.assertTrue(all(type(laid) is tuple and len(laid) == 3 for laid in book.laid()))
        self.assertTrue(all(isinstance(sale, Sale) for sale in book.sales()))

    def test_books_share_nothing(self):
        way = Mean()
        one, other = LayingBook(way, 5), LayingBook(way, 5)
        with_done(one, *history())
        self.assertEqual(all_told(other), all_told(LayingBook(Mean(), 5)))


class LayingBookOf(unittest.TestCase):
    def test_entries_in_any_order(self):
        entries = history()[:7]
        for word in ("eldest", "mean"):
            asked = all_told(with_done(LayingBook(way_by(word), 5), *entries))
            for mixed in itertools.permutations(entries):
                handed = list(mixed)
                book = laying_book_of(way_by(word), 5, handed)
                self.assertEqual(all_told(book), asked)
                self.assertEqual([id(entry) for entry in handed], [id(entry) for entry in mixed])

    def test_it_is_a_laying_book_of_these_days_that_goes_on(self):
        for days in (0, 1, 2, 3):
            book = laying_book_of(Eldest(), days, with_loss()[::-1])
            self.assertIs(type(book), LayingBook)
            with self.assertRaises(Late):
                book.do(Buy(10, 19, "tin", 1, 1))
            book.do(Buy(12, 1, "tin", 1, 1))
            self.assertEqual(book.laid(), [(20, 1, 8)] if days >= 2 else [])

    def test_no_entries(self):
        self.assertEqual(all_told(laying_book_of(Newest(), 4, [])), all_told(LayingBook(Newest(), 4)))

    def test_what_is_done_to_the_list_later_changes_nothing(self):
        entries = history()
        book = laying_book_of(Eldest(), 5, entries)
        before = all_told(book)
        entries.clear()
        self.assertEqual(all_told(book), before)

    def assert_refused(self, error, number, entries):
        for mixed in itertools.permutations(entries):
            handed = list(mixed)
            with self.assertRaises(error) as refused:
                laying_book_of(Eldest(), 5, handed)
            self.assertIs(type(refused.exception), error)
            self.assertEqual(refused.exception.number, number)
            self.assertEqual([id(entry) for entry in handed], [id(entry) for entry in mixed])

    def test_twice_goes_first(self):
        self.assert_refused(Twice, 4, [Buy(1, 4, "tin", 1, 1), Buy(2, 4, "tin", 1, 1), Buy(0, 3, "tin", 1, 1)])
        self.assert_refused(Twice, 2, [Sell(0, 1, "tin", 1, 1), Buy(1, 4, "tin", 1, 1), Buy(2, 4, "tin", 1, 1),
                                       Buy(7, 2, "tin", 1, 1), Buy(8, 2, "tin", 1, 1)])

    def test_then_as_do_the_first_that_cant_be_done(self):
        buy = Buy(1, 1, "tin", 2, 1)
        self.assert_refused(NotHeld, 3, [buy, Sell(2, 3, "tin", 3, 1), Give(3, 2, "tin", 1, [(9, 1)])])
        self.assert_refused(NoLot, 3, [buy, Give(2, 3, "tin", 1, [(9, 1)]), Sell(3, 2, "tin", 3, 1)])


if __name__ == "__main__":
    unittest.main()
