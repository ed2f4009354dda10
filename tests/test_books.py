"""Points 18, 19 and 20: plain books."""

import inspect
import itertools
import unittest

from lotledger.books import Book, Sale, book_of
from lotledger.entries import Buy, Gift, Give, Parting, Sell, Split
from lotledger.errors import Late, NoLot, NotHeld, Twice
from lotledger.held import held_after
from lotledger.ways import Dearest, Eldest, Mean, Newest, way_by
from helper import SUMS, WORDS, all_told, told, told_sale, with_done


def done(way, *entries):
    return with_done(Book(way), *entries)


def history():
    """Every kind of entry, with two wares, in order."""
    return [
        Buy(1, 10, "tin", 4, 5, 2),
        Gift(2, 3, "tin", 2, 9, 0),
        Buy(3, 4, "tin", 6, 7),
        Sell(4, 5, "tin", 5, 8, 3),
        Split(5, 6, "tin", 3, 2),
        Parting(6, 7, "tin", "ore", 1, 3),
        Give(7, 8, "ore", 4),
        Sell(8, 9, "tin", 2, 1, 50),
    ]


class Interface(unittest.TestCase):
    def test_arguments(self):
        asked = (
            (Book, "(way)"), (Book.do, "(self, entry)"), (Book.held, "(self)"), (Book.row_of, "(self, ware)"),
            (Book.sales, "(self)"), (Book.given, "(self)"), (Book.sums, "(self)"), (Sale.gain, "(self)"),
            (Sale.counted, "(self)"), (book_of, "(way, entries)"),
        )
        for function, arguments in asked:
            with self.subTest(function.__qualname__):
                self.assertEqual(str(inspect.signature(function)), arguments)


class EachKind(unittest.TestCase):
    def test_a_new_book(self):
        book = Book(Eldest())
        self.assertEqual((book.held(), book.row_of("tin"), book.sales(), book.given()), ({}, [], [], []))
        self.assertEqual(book.sums(), dict.fromkeys(SUMS, 0))

    def test_do_tells_none(self):
        for way in WORDS:
            book = Book(way_by(way))
            self.assertEqual([book.do(entry) for entry in history()], [None] * 8)

    def test_buy(self):
        book = done(Eldest(), Buy(3, 14, "tin", 10, 25, 7))
        self.assertEqual(told(book.row_of("tin")), [(14, 3, 10, 257)])
        self.assertEqual(book.held(), {"tin": 10})
        self.assertEqual(book.sums(), dict(dict.fromkeys(SUMS, 0), paid=257, left=257))

    def test_gift(self):
        book = done(Eldest(), Gift(8, 5, "tin", 4, 90, 2))
        self.assertEqual(told(book.row_of("tin")), [(5, 2, 4, 90)])
        self.assertEqual(book.held(), {"tin": 4})
        self.assertEqual(book.sums(), dict(dict.fromkeys(SUMS, 0), brought=90, left=90))

    def test_the_row_is_by_since_then_number(self):
        book = done(Eldest(), Buy(5, 4, "tin", 1, 1), Gift(6, 9, "tin", 1, 2, 5), Gift(7, 1, "tin", 1, 3, 5),
                    Gift(8, 0, "tin", 1, 4, 6), Gift(9, 8, "tin", 1, 5, 0))
        self.assertEqual([lot[0] for lot in told(book.row_of("tin"))], [8, 1, 4, 9, 0])

    def test_sell(self):
        book = done(Eldest(), Buy(1, 1, "tin", 4, 5, 2), Buy(2, 2, "tin", 6, 7), Sell(4, 3, "tin", 5, 8, 3))
        self.assertEqual(told(book.row_of("tin")), [(2, 2, 5, 35)])
        self.assertEqual(book.held(), {"tin": 5})
        # 37 dealt by 4 and 1: 29 and 8.
        sale = (3, 4, "tin", 37, [(1, 1, 4, 22, 29), (2, 2, 1, 7, 8)], None, 8, 8)
        self.assertEqual([told_sale(sale) for sale in book.sales()], [sale])
        self.assertEqual(book.sums(), dict(dict.fromkeys(SUMS, 0), paid=64, sold=29, left=35, proceeds=37))

    def test_give(self):
        book = done(Newest(), Buy(1, 1, "tin", 4, 5, 2), Buy(2, 2, "tin", 6, 7), Give(4, 3, "tin", 7))
        self.assertEqual(told(book.row_of("tin")), [(1, 1, 3, 17)])
        self.assertEqual(book.given(), [(3, [(2, 2, 6, 42), (1, 1, 1, 5)])])
        self.assertEqual(book.sales(), [])
        self.assertEqual(book.sums(), dict(dict.fromkeys(SUMS, 0), paid=64, given=47, left=17))

    def test_a_ware_of_which_all_goes_isnt_held(self):
        for last in (Sell(4, 3, "tin", 4, 8), Give(4, 3, "tin", 4)):
            book = done(Eldest(), Buy(1, 1, "tin", 4, 5), Buy(2, 2, "ore", 1, 1), last)
            self.assertEqual(book.held(), {"ore": 1})
            self.assertEqual(book.row_of("tin"), [])

    def test_split(self):
        book = done(Eldest(), Buy(1, 1, "tin", 1, 5), Buy(2, 2, "tin", 4, 7), Buy(2, 3, "ore", 3, 3),
                    Split(3, 4, "tin", 1, 2))
        self.assertEqual(told(book.row_of("tin")), [(2, 2, 2, 33)])
        self.assertEqual(told(book.row_of("ore")), [(3, 2, 3, 9)])
        self.assertEqual(book.held(), {"tin": 2, "ore": 3})

    def test_parting_into_a_ware_that_isnt_held(self):
        book = done(Eldest(), Buy(1, 1, "tin", 2, 5), Buy(2, 2, "tin", 3, 7), Parting(3, 3, "tin", "ore", 1, 3))
        self.assertEqual(told(book.row_of("tin")), [(1, 1, 2, 7), (2, 2, 3, 14)])
        self.assertEqual(told(book.row_of("ore")), [(1, 1, 2, 3), (2, 2, 3, 7)])
        self.assertEqual(book.held(), {"tin": 5, "ore": 5})
        self.assertEqual(book.sums()["left"], 31)

    def test_parting_into_a_ware_that_is_held(self):
        book = done(Eldest(), Buy(1, 1, "tin", 2, 5), Buy(2, 2, "ore", 1, 9), Buy(3, 3, "tin", 3, 7),
                    Parting(4, 4, "tin", "ore", 1, 2))
        self.assertEqual(told(book.row_of("tin")), [(1, 1, 2, 5), (3, 3, 3, 11)])
        self.assertEqual(told(book.row_of("ore")), [(1, 1, 2, 5), (2, 2, 1, 9), (3, 3, 3, 10)])
        self.assertEqual(book.held(), {"tin": 5, "ore": 6})

    def test_parted_twice_the_lots_of_a_number_are_one(self):
        book = done(Eldest(), Buy(1, 1, "tin", 2, 5), Parting(2, 2, "tin", "ore", 1, 2), Buy(3, 3, "tin", 1, 4),
                    Parting(4, 4, "tin", "ore", 1, 2), Parting(5, 5, "ore", "tin", 1, 1))
        self.assertEqual(told(book.row_of("ore")), [(1, 1, 4, 0), (3, 3, 1, 0)])
        self.assertEqual(told(book.row_of("tin")), [(1, 1, 6, 10), (3, 3, 2, 4)])

    def test_parting_with_share_0_and_share_all(self):
        for share, tin, ore in ((0, 10, 0), (4, 0, 10)):
            book = done(Eldest(), Buy(1, 1, "tin", 2, 5), Parting(2, 2, "tin", "ore", share, 4))
            self.assertEqual(told(book.row_of("tin")), [(1, 1, 2, tin)])
            self.assertEqual(told(book.row_of("ore")), [(1, 1, 2, ore)])

    def test_split_and_parting_of_a_ware_that_isnt_held_do_nothing(self):
        for entry in (Split(2, 2, "tin", 1, 1000), Split(2, 2, "tin", 5, 1), Parting(2, 2, "tin", "ore", 1, 2),
                      Parting(2, 2, "tin", "zinc", 1, 2)):
            for ahead in ([], [Buy(1, 1, "ore", 3, 3)]):
                book = done(Eldest(), *ahead)
                before = all_told(book)
                book.do(entry)
                self.assertEqual(all_told(book), before)
                self.assertNotIn("tin", book.held())
                self.assertNotIn("zinc", book.held())

    def test_an_entry_that_does_nothing_is_done(self):
        for entry in (Split(2, 2, "tin", 1, 9), Parting(2, 2, "tin", "ore", 1, 2)):
            with self.assertRaises(Late):
                done(Eldest(), entry, Buy(2, 1, "tin", 1, 1))


class ByEachWay(unittest.TestCase):
    """The same entries: which lots go hangs on the way."""

    def book(self, way, *more):
        return done(way, Buy(1, 1, "tin", 2, 5), Buy(2, 2, "tin", 3, 9), Buy(3, 3, "tin", 3, 1), *more)

    def test_which_lots_are_sold(self):
        asked = (
            (Eldest(), [(1, 1, 2, 10, 8), (2, 2, 2, 18, 9)], [(2, 2, 1, 9), (3, 3, 3, 3)]),
            (Newest(), [(3, 3, 3, 3, 12), (2, 2, 1, 9, 5)], [(1, 1, 2, 10), (2, 2, 2, 18)]),
            (Dearest(), [(2, 2, 3, 27, 12), (1, 1, 1, 5, 5)], [(1, 1, 1, 5), (3, 3, 3, 3)]),
            # 40 dealt by 2, 3 and 3: 10, 15 and 15.
            (Mean(), [(1, 1, 2, 10, 8), (2, 2, 2, 10, 9)], [(2, 2, 1, 5), (3, 3, 3, 15)]),
        )
        for way, parts, left in asked:
            with self.subTest(way.word()):
                book = self.book(way, Sell(4, 4, "tin", 4, 5, 3))
                self.assertEqual(book.sales()[0].parts, parts)
                self.assertEqual(told(book.row_of("tin")), left)
                self.assertEqual(book.sales()[0].gain(), 17 - sum(part[3] for part in parts))

    def test_which_lots_are_given(self):
        for way, number in ((Eldest(), 1), (Newest(), 3), (Dearest(), 2), (Mean(), 1)):
            with self.subTest(way.word()):
                self.assertEqual(self.book(way, Give(4, 4, "tin", 1)).given()[0][1][0][0], number)

    def test_named_lots(self):
        named = [(3, 2), (1, 1)]
        for way in (Eldest(), Newest(), Dearest()):
            book = self.book(way, Sell(4, 4, "tin", 3, 5, 0, named), Give(5, 5, "tin", 2, [(2, 1), (3, 1)]))
            self.assertEqual(book.sales()[0].parts, [(3, 3, 2, 2, 10), (1, 1, 1, 5, 5)])
            self.assertEqual(book.given(), [(5, [(2, 2, 1, 9), (3, 3, 1, 1)])])
            self.assertEqual(told(book.row_of("tin")), [(1, 1, 1, 5), (2, 2, 2, 18)])
        book = self.book(Mean(), Sell(4, 4, "tin", 3, 5, 0, named))
        self.assertEqual(book.sales()[0].parts, [(3, 3, 2, 10, 10), (1, 1, 1, 5, 5)])
        self.assertEqual(told(book.row_of("tin")), [(1, 1, 1, 5), (2, 2, 3, 15), (3, 3, 1, 5)])

    def test_by_mean_a_row_is_levelled_when_something_goes_alone(self):
        book = self.book(Mean())
        self.assertEqual(told(book.row_of("tin")), [(1, 1, 2, 10), (2, 2, 3, 27), (3, 3, 3, 3)])
        book.do(Split(4, 4, "tin", 1, 1))
        self.assertEqual(told(book.row_of("tin")), [(1, 1, 2, 10), (2, 2, 3, 27), (3, 3, 3, 3)])
        book.do(Give(5, 5, "tin", 1))
        self.assertEqual(told(book.row_of("tin")), [(1, 1, 1, 5), (2, 2, 3, 15), (3, 3, 3, 15)])

    def test_parted_lots_can_be_named(self):
        book = self.book(Eldest(), Parting(4, 4, "tin", "ore", 1, 2), Give(5, 5, "ore", 3, [(3, 3)]))
        self.assertEqual(book.given(), [(5, [(3, 3, 3, 1)])])
        self.assertEqual(told(book.row_of("tin")), [(1, 1, 2, 5), (2, 2, 3, 14), (3, 3, 3, 2)])


class Refused(unittest.TestCase):
    def assert_refused(self, error, book, entry):
        before = all_told(book)
        with self.subTest(error.__name__, entry=entry.told()):
            with self.assertRaises(error) as refused:
                book.do(entry)
            self.assertIs(type(refused.exception), error)
            self.assertEqual(refused.exception.number, entry.number)
            self.assertEqual(all_told(book), before)

    def book(self, word="eldest"):
        return done(way_by(word), Buy(1, 11, "tin", 4, 5), Buy(2, 12, "tin", 2, 7), Buy(5, 20, "ore", 1, 3))

    def test_late(self):
        book = self.book()
        for day, number in ((5, 20), (5, 19), (5, 0), (4, 30), (4, 19), (0, 10 ** 6), (0, 0)):
            for entry in (Buy(day, number, "tin", 1, 1), Gift(day, number, "tin", 1, 1, 0), Give(day, number, "tin", 1),
                          Sell(day, number, "tin", 1, 1), Split(day, number, "tin", 2, 1),
                          Parting(day, number, "tin", "ore", 1, 2), Split(day, number, "zinc", 2, 1)):
                self.assert_refused(Late, book, entry)

    def test_the_least_that_isnt_late(self):
        for day, number in ((5, 21), (6, 0), (6, 19), (10 ** 6, 1)):
            book = self.book()
            book.do(Buy(day, number, "zinc", 1, 1))
            self.assertEqual(book.held()["zinc"], 1)
        book = done(Eldest(), Buy(0, 0, "tin", 1, 1))
        self.assertEqual(book.held(), {"tin": 1})

    def test_a_gifts_since_is_never_late(self):
        book = self.book()
        book.do(Gift(5, 21, "tin", 1, 1, 0))
        self.assertEqual(told(book.row_of("tin"))[0], (21, 0, 1, 1))

    def test_not_held(self):
        for word in WORDS:
            book = self.book(word)
            for entry in (Sell(6, 21, "tin", 7, 1), Give(6, 21, "tin", 7), Sell(6, 21, "zinc", 1, 1),
                          Give(6, 21, "zinc", 1), Split(6, 21, "ore", 1, 2), Split(6, 21, "tin", 1, 7)):
                self.assert_refused(NotHeld, book, entry)

    def test_no_lot(self):
        for word in WORDS:
            book = self.book(word)
            for named in ([(13, 1)], [(11, 4), (99, 1)], [(12, 3)], [(12, 3), (11, 1)], [(20, 1)], [(11, 5)]):
                pieces = sum(pick[1] for pick in named)
                self.assert_refused(NoLot, book, Sell(6, 21, "tin", pieces, 1, 0, named))
                self.assert_refused(NoLot, book, Give(6, 21, "tin", pieces, named))

    def test_late_goes_ahead_of_not_held_and_no_lot(self):
        for named in (None, [(99, 7)]):
            self.assert_refused(Late, self.book(), Sell(5, 3, "tin", 7, 1, 0, named))
            self.assert_refused(Late, self.book(), Give(5, 3, "tin", 7, named))
        self.assert_refused(Late, self.book(), Give(5, 3, "tin", 1, [(99, 1)]))
        self.assert_refused(Late, self.book(), Split(5, 3, "ore", 1, 2))

    def test_not_held_goes_ahead_of_no_lot(self):
        self.assert_refused(NotHeld, self.book(), Sell(6, 21, "tin", 7, 1, 0, [(99, 7)]))
        self.assert_refused(NotHeld, self.book(), Give(6, 21, "tin", 7, [(11, 4), (12, 3)]))
        self.assert_refused(NotHeld, self.book(), Give(6, 21, "zinc", 1, [(11, 1)]))

    def test_what_is_refused_isnt_the_last_that_was_done(self):
        for entry in (Sell(9, 30, "tin", 7, 1), Give(9, 30, "tin", 1, [(99, 1)]), Split(9, 30, "ore", 1, 2)):
            book = self.book()
            with self.assertRaises((NotHeld, NoLot)):
                book.do(entry)
            book.do(Buy(6, 21, "tin", 1, 1))
            self.assertEqual(book.held(), {"tin": 7, "ore": 1})

    def test_refused_first_a_book_is_still_new(self):
        book = Book(Eldest())
        self.assert_refused(NotHeld, book, Sell(9, 9, "tin", 1, 1))
        book.do(Buy(1, 1, "tin", 1, 1))
        self.assertEqual(book.held(), {"tin": 1})

    def test_the_lots_that_are_there_may_be_named_afterwards(self):
        book = self.book()
        self.assert_refused(NoLot, book, Sell(6, 21, "tin", 3, 1, 0, [(12, 3)]))
        book.do(Sell(6, 21, "tin", 3, 1, 0, [(12, 2), (11, 1)]))
        self.assertEqual(book.sales()[0].parts, [(12, 2, 2, 14, 2), (11, 1, 1, 5, 1)])


class Sales(unittest.TestCase):
    def test_in_order_with_all_fields(self):
        book = done(Eldest(), *history())
        # Row ahead of the first sell: (3, 0, 2, 9), (10, 1, 4, 22), (4, 3, 6, 42); 37 dealt by 2 and 3.
        first = (5, 4, "tin", 37, [(3, 0, 2, 9, 14), (10, 1, 3, 16, 23)], None, 12, 12)
        # Then (10, 1, 1, 6), (4, 3, 6, 42); split to 1 and 9; parted to costs of 4 and 28.
        second = (9, 8, "tin", -48, [(10, 1, 1, 4, -24), (4, 3, 1, 3, -24)], None, -55, -55)
        self.assertEqual([told_sale(sale) for sale in book.sales()], [first, second])
        self.assertTrue(all(isinstance(sale, Sale) for sale in book.sales()))
        self.assertTrue(all(type(part) is tuple for sale in book.sales() for part in sale.parts))

    def test_proceeds_below_0_are_dealt(self):
        book = done(Eldest(), Buy(1, 1, "tin", 1, 1), Buy(2, 2, "tin", 2, 1), Sell(3, 3, "tin", 3, 0, 10))
        self.assertEqual(book.sales()[0].parts, [(1, 1, 1, 1, -4), (2, 2, 2, 2, -6)])
        self.assertEqual(book.sales()[0].gain(), -13)

    def test_gains_of_0(self):
        sale = done(Eldest(), Buy(1, 1, "tin", 3, 4), Sell(2, 2, "tin", 3, 4)).sales()[0]
        self.assertEqual((sale.gain(), sale.counted(), sale.laid_on), (0, 0, None))

    def test_a_loss_is_laid_on_nothing(self):
        book = done(Eldest(), Buy(1, 1, "tin", 3, 4), Sell(2, 2, "tin", 3, 1), Buy(2, 3, "tin", 3, 1))
        sale = book.sales()[0]
        self.assertEqual((sale.gain(), sale.counted(), sale.laid_on), (-9, -9, None))
        self.assertEqual(told(book.row_of("tin")), [(3, 2, 3, 3)])
        self.assertEqual(book.sums()["laid"], 0)

    def test_counted_is_0_where_it_is_laid(self):
        for laid_on in (0, 7):
            sale = Sale(5, 4, "tin", 3, [(1, 1, 2, 9, 3)], laid_on)
            self.assertEqual((sale.gain(), sale.counted()), (-6, 0))

    def test_of_several_wares_in_the_order_done(self):
        book = done(Eldest(), Buy(1, 5, "tin", 3, 4), Buy(1, 6, "ore", 3, 4), Sell(2, 9, "tin", 1, 4),
                    Sell(3, 2, "ore", 1, 4), Sell(3, 4, "tin", 2, 4), Give(4, 0, "ore", 1), Give(5, 1, "ore", 1))
        self.assertEqual([(sale.number, sale.ware) for sale in book.sales()], [(9, "tin"), (2, "ore"), (4, "tin")])
        self.assertEqual([number for number, _ in book.given()], [0, 1])


class Sums(unittest.TestCase):
    def test_the_seven_words(self):
        sums = done(Eldest(), *history()).sums()
        self.assertIsInstance(sums, dict)
        # Sold: 9 and 16, 4 and 3. Given: the lots of ore had costs of 2 and 14, of which 3 pieces of 9 have 4.
        self.assertEqual(
            sums, {"paid": 64, "brought": 9, "laid": 0, "sold": 32, "given": 6, "left": 35, "proceeds": -11}
        )

    def test_they_come_to_one_another_behind_each_entry(self):
        for word in WORDS:
            book = Book(way_by(word))
            for entry in history():
                book.do(entry)
                sums = book.sums()
                self.assertEqual(sorted(sums), sorted(SUMS))
                self.assertEqual(sums["paid"] + sums["brought"] + sums["laid"],
                                 sums["sold"] + sums["given"] + sums["left"])

    def test_great_costs(self):
        nine = 10 ** 9
        book = done(Mean(), Buy(1, 1, "tin", nine, nine, nine), Gift(1, 2, "tin", nine, 10 ** 18, 0),
                    Sell(2, 3, "tin", nine, nine, nine), Give(3, 4, "tin", 1))
        sums = book.sums()
        self.assertEqual((sums["paid"], sums["brought"]), (10 ** 18 + nine, 10 ** 18))
        self.assertEqual(sums["sold"] + sums["given"] + sums["left"], 2 * 10 ** 18 + nine)
        self.assertEqual(sums["proceeds"], 10 ** 18 - nine)


class WhatIsTold(unittest.TestCase):
    def test_held_behind_each_entry(self):
        for word in WORDS:
            book, so_far = Book(way_by(word)), []
            for entry in history():
                book.do(entry)
                so_far.append(entry)
                self.assertEqual(book.held(), held_after(so_far))

    def test_what_the_asker_does_to_it_changes_no_later_answer(self):
        book = done(Eldest(), *history())
        before = all_told(book)
        book.held()["tin"] = 99
        book.held().clear()
        book.row_of("tin").clear()
        book.row_of("zinc").append(book.row_of("tin")[0])
        sales = book.sales()
        sales[0].parts.clear()
        sales[1].parts[0] = (1, 1, 1, 1, 1)
        sales[0].proceeds = 10 ** 6
        sales[0].laid_on = 4
        sales.pop()
        given = book.given()
        given[0][1].clear()
        given.clear()
        book.sums()["left"] = 0
        book.sums().clear()
        self.assertEqual(all_told(book), before)
        book.do(Buy(9, 99, "zinc", 1, 1))
        self.assertEqual(book.held(), dict(before[0], zinc=1))

    def test_what_is_done_later_changes_nothing_told(self):
        book = Book(Mean())
        kept = []
        for entry in history() + [Give(9, 11, "tin", 8), Sell(9, 12, "ore", 6, 3), Buy(10, 1, "tin", 5, 5)]:
            book.do(entry)
            rows = [book.row_of(ware) for ware in ("tin", "ore", "zinc")]
            live = (book.held(), rows, book.sales(), book.given(), book.sums())
            kept.append((live, all_told(book)))
        for (held, rows, sales, given, sums), (old_held, old_rows, old_sales, old_given, old_sums, _) in kept:
            self.assertEqual((held, given, sums), (old_held, old_given, old_sums))
            self.assertEqual([told(one) for one in rows], list(old_rows.values()))
            self.assertEqual([told_sale(sale) for sale in sales], old_sales)

    def test_told_ones_are_lists_and_dicts(self):
        book = done(Eldest(), *history())
        self.assertIs(type(book.held()), dict)
        self.assertIs(type(book.sums()), dict)
        for told_list in (book.row_of("tin"), book.row_of("zinc"), book.sales(), book.given(), book.sales()[0].parts):
            self.assertIs(type(told_list), list)
        self.assertIs(type(book.given()[0]), tuple)
        self.assertIs(type(book.given()[0][1]), list)
        self.assertIs(type(book.given()[0][1][0]), tuple)

    def test_entries_stay_and_books_share_nothing(self):
        entries = [Buy(1, 1, "tin", 4, 5), Sell(2, 2, "tin", 1, 5, 0, [(1, 1)]), Give(3, 3, "tin", 1, [(1, 1)])]
        before = [entry.told() for entry in entries]
        way = Mean()
        one, other = Book(way), Book(way)
        for entry in entries:
            one.do(entry)
        self.assertEqual([entry.told() for entry in entries], before)
        self.assertEqual(all_told(other), all_told(Book(Mean())))

    def test_the_list_of_named_lots_may_change_afterwards(self):
        named = [(2, 1), (1, 1)]
        book = done(Eldest(), Buy(1, 1, "tin", 4, 5), Buy(2, 2, "tin", 4, 5), Sell(3, 3, "tin", 2, 5, 0, named))
        before = all_told(book)
        named.clear()
        self.assertEqual(all_told(book), before)


class BookOf(unittest.TestCase):
    def test_entries_in_any_order(self):
        entries = history()[:6]
        for word in WORDS:
            asked = all_told(done(way_by(word), *entries))
            for mixed in itertools.permutations(entries):
                handed = list(mixed)
                book = book_of(way_by(word), handed)
                self.assertEqual(all_told(book), asked)
                self.assertEqual([id(entry) for entry in handed], [id(entry) for entry in mixed])

    def test_it_is_a_plain_book_that_goes_on(self):
        book = book_of(Eldest(), history()[::-1])
        self.assertIs(type(book), Book)
        with self.assertRaises(Late):
            book.do(Buy(8, 2, "tin", 1, 1))
        book.do(Buy(8, 11, "zinc", 1, 1))
        self.assertEqual(book.held()["zinc"], 1)

    def test_no_entries(self):
        self.assertEqual(all_told(book_of(Newest(), [])), all_told(Book(Newest())))

    def test_what_is_done_to_the_list_later_changes_nothing(self):
        entries = history()
        book = book_of(Eldest(), entries)
        before = all_told(book)
        entries.clear()
        self.assertEqual(all_told(book), before)

    def assert_refused(self, error, number, entries):
        for mixed in itertools.permutations(entries):
            handed = list(mixed)
            with self.assertRaises(error) as refused:
                book_of(Eldest(), handed)
            self.assertEqual(refused.exception.number, number)
            self.assertEqual([id(entry) for entry in handed], [id(entry) for entry in mixed])

    def test_twice(self):
        self.assert_refused(Twice, 4, [Buy(1, 4, "tin", 1, 1), Buy(2, 4, "tin", 1, 1), Buy(0, 3, "tin", 1, 1)])
        self.assert_refused(Twice, 2, [Buy(1, 4, "tin", 1, 1), Buy(2, 4, "tin", 1, 1), Buy(7, 2, "tin", 1, 1),
                                       Buy(8, 2, "tin", 1, 1)])

    def test_twice_goes_first(self):
        self.assert_refused(Twice, 4, [Sell(0, 3, "tin", 1, 1), Buy(1, 4, "tin", 1, 1), Buy(2, 4, "tin", 1, 1)])
        self.assert_refused(Twice, 4, [Buy(0, 1, "tin", 1, 1), Give(1, 2, "tin", 1, [(9, 1)]),
                                       Buy(3, 4, "tin", 1, 1), Buy(4, 4, "tin", 1, 1)])

    def test_then_as_do_the_first_that_cant_be_done(self):
        buy = Buy(1, 1, "tin", 2, 1)
        self.assert_refused(NotHeld, 3, [buy, Sell(2, 3, "tin", 3, 1), Give(3, 2, "tin", 1, [(9, 1)])])
        self.assert_refused(NoLot, 3, [buy, Give(2, 3, "tin", 1, [(9, 1)]), Sell(3, 2, "tin", 3, 1)])
        self.assert_refused(NotHeld, 2, [Buy(1, 1, "tin", 1, 1), Split(2, 2, "tin", 1, 2)])


if __name__ == "__main__":
    unittest.main()
