"""Point 24: ledgers."""

import inspect
import itertools
import random
import unittest

from lotledger.books import Book, book_of
from lotledger.entries import Buy, Gift, Give, Parting, Sell, Split
from lotledger.errors import NoLot, NoNumber, NotHeld, Twice
from lotledger.laying import LayingBook, laying_book_of
from lotledger.ledgers import Ledger
from lotledger.ways import Eldest, way_by
from helper import WORDS, all_told


def history():
    """Every kind of entry, in order; the sell of number 5 has a loss that the buy of number 6 may take."""
    return [
        Buy(1, 10, "tin", 4, 5, 2),
        Gift(2, 3, "tin", 2, 9, 0),
        Buy(3, 4, "tin", 6, 7),
        Sell(4, 5, "tin", 5, 3, 3, [(3, 2), (4, 3)]),
        Buy(4, 6, "tin", 1, 7),
        Split(5, 0, "tin", 3, 2),
        Parting(6, 7, "tin", "ore", 1, 3),
        Give(7, 8, "ore", 4, [(4, 4)]),
        Sell(8, 9, "tin", 2, 1, 50),
    ]


def told(entries):
    return [entry.told() for entry in entries]


def ledger_of(entries):
    ledger = Ledger()
    for entry in entries:
        ledger.enter(entry)
    return ledger


class Interface(unittest.TestCase):
    def test_arguments(self):
        asked = (
            (Ledger, "()"), (Ledger.enter, "(self, entry)"), (Ledger.strike, "(self, number)"),
            (Ledger.correct, "(self, entry)"), (Ledger.entries, "(self)"), (Ledger.book, "(self, way, days=None)"),
        )
        for function, arguments in asked:
            with self.subTest(function.__qualname__):
                self.assertEqual(str(inspect.signature(function)), arguments)

    def test_a_new_ledger(self):
        self.assertEqual(Ledger().entries(), [])
        self.assertEqual(all_told(Ledger().book(Eldest())), all_told(Book(Eldest())))
        self.assertEqual(all_told(Ledger().book(Eldest(), 3)), all_told(LayingBook(Eldest(), 3)))


class Enter(unittest.TestCase):
    def test_it_tells_none(self):
        ledger = Ledger()
        self.assertEqual([ledger.enter(entry) for entry in history()], [None] * 9)

    def test_in_any_order(self):
        for mixed in itertools.permutations(history()[:6]):
            self.assertEqual(told(ledger_of(mixed).entries()), told(history()[:6]))

    def test_every_kind_is_told_as_the_same(self):
        for entry in history() + [Sell(8, 1, "tin", 2, 1), Give(8, 1, "tin", 2), Buy(8, 1, "tin", 2, 1)]:
            kept = ledger_of([entry]).entries()
            self.assertEqual(told(kept), [entry.told()])
            self.assertEqual([type(one) for one in kept], [type(entry)])

    def test_twice(self):
        for again in (Buy(1, 10, "tin", 4, 5, 2), Split(99, 10, "zinc", 2, 1), Sell(0, 10, "tin", 1, 1)):
            ledger = ledger_of(history())
            with self.assertRaises(Twice) as refused:
                ledger.enter(again)
            self.assertIs(type(refused.exception), Twice)
            self.assertEqual(refused.exception.number, 10)
            self.assertEqual(told(ledger.entries()), told(history()))

    def test_number_0_and_the_greatest(self):
        for number in (0, 10 ** 6):
            ledger = ledger_of([Buy(1, number, "tin", 1, 1)])
            with self.assertRaises(Twice) as refused:
                ledger.enter(Buy(2, number, "tin", 1, 1))
            self.assertEqual(refused.exception.number, number)

    def test_what_cant_be_done_may_be_entered(self):
        sell = Sell(1, 1, "tin", 5, 5)
        ledger = ledger_of([sell])
        self.assertEqual(told(ledger.entries()), [sell.told()])
        ledger.enter(Buy(0, 2, "tin", 5, 5))
        self.assertEqual(ledger.book(Eldest()).held(), {})


class Strike(unittest.TestCase):
    def test_the_struck_one_is_told_and_gone(self):
        for place, entry in enumerate(history()):
            ledger = ledger_of(history())
            self.assertEqual(ledger.strike(entry.number).told(), entry.told())
            self.assertEqual(told(ledger.entries()), told(history()[:place] + history()[place + 1:]))

    def test_all_are_struck(self):
        ledger = ledger_of(history())
        for number in (5, 0, 10, 3, 4, 9, 8, 7, 6):
            self.assertEqual(ledger.strike(number).number, number)
        self.assertEqual(ledger.entries(), [])

    def test_no_number(self):
        ledger = ledger_of(history())
        for number in (1, 2, 11, 10 ** 6):
            with self.assertRaises(NoNumber) as refused:
                ledger.strike(number)
            self.assertIs(type(refused.exception), NoNumber)
            self.assertEqual(refused.exception.number, number)
            self.assertEqual(told(ledger.entries()), told(history()))

    def test_of_a_new_ledger(self):
        with self.assertRaises(NoNumber) as refused:
            Ledger().strike(0)
        self.assertEqual(refused.exception.number, 0)

    def test_struck_twice(self):
        ledger = ledger_of(history())
        ledger.strike(5)
        with self.assertRaises(NoNumber) as refused:
            ledger.strike(5)
        self.assertEqual(refused.exception.number, 5)

    def test_struck_and_entered_anew(self):
        ledger = ledger_of(history())
        struck = ledger.strike(4)
        ledger.enter(struck)
        self.assertEqual(told(ledger.entries()), told(history()))
        ledger.strike(4)
        ledger.enter(Buy(0, 4, "zinc", 1, 1))
        self.assertEqual(ledger.entries()[0].told(), ("buy", 0, 4, "zinc", 1, 1, 0))


class Correct(unittest.TestCase):
    def test_another_one_stands_in_its_stead(self):
        ledger = ledger_of(history())
        other = Split(9, 10, "zinc", 2, 1)
        self.assertEqual(ledger.correct(other).told(), history()[0].told())
        self.assertEqual(told(ledger.entries()), told(history()[1:]) + [other.told()])
        self.assertEqual(ledger.correct(history()[0]).told(), other.told())
        self.assertEqual(told(ledger.entries()), told(history()))

    def test_each_kind_by_each_kind(self):
        for before, behind in itertools.product(range(9), repeat=2):
            numbered = [Buy(1, 5, "tin", 4, 5, 2), Gift(2, 5, "tin", 2, 9, 0), Sell(4, 5, "tin", 5, 3),
                        Sell(4, 5, "tin", 5, 3, 3, [(3, 5)]), Give(7, 5, "ore", 4), Give(7, 5, "ore", 4, [(4, 4)]),
                        Split(5, 5, "tin", 3, 2), Parting(6, 5, "tin", "ore", 1, 3), Buy(1, 5, "a", 1, 0, 0)]
            ledger = ledger_of([numbered[before]])
            self.assertEqual(ledger.correct(numbered[behind]).told(), numbered[before].told())
            self.assertEqual(told(ledger.entries()), [numbered[behind].told()])

    def test_no_number(self):
        for number in (1, 11):
            ledger = ledger_of(history())
            with self.assertRaises(NoNumber) as refused:
                ledger.correct(Buy(4, number, "tin", 1, 1))
            self.assertIs(type(refused.exception), NoNumber)
            self.assertEqual(refused.exception.number, number)
            self.assertEqual(told(ledger.entries()), told(history()))
        with self.assertRaises(NoNumber):
            Ledger().correct(Buy(4, 0, "tin", 1, 1))

    def test_struck_it_cant_be_corrected(self):
        ledger = ledger_of(history())
        ledger.strike(4)
        with self.assertRaises(NoNumber) as refused:
            ledger.correct(Buy(4, 4, "tin", 1, 1))
        self.assertEqual(refused.exception.number, 4)
        self.assertEqual(told(ledger.entries()), told(history()[:2] + history()[3:]))

    def test_corrected_it_cant_be_entered_but_struck(self):
        ledger = ledger_of(history())
        other = Buy(4, 4, "tin", 1, 1)
        ledger.correct(other)
        with self.assertRaises(Twice):
            ledger.enter(other)
        self.assertEqual(ledger.strike(4).told(), other.told())


class Entries(unittest.TestCase):
    def test_the_list_is_the_askers_own(self):
        ledger = ledger_of(history())
        kept = ledger.entries()
        self.assertIs(type(kept), list)
        ledger.strike(4)
        ledger.enter(Buy(0, 1, "tin", 1, 1))
        ledger.correct(Buy(0, 10, "tin", 1, 1))
        self.assertEqual(told(kept), told(history()))
        ledger = ledger_of(history())
        ledger.entries().clear()
        ledger.entries().reverse()
        self.assertEqual(told(ledger.entries()), told(history()))

    def test_named_lots_are_copied_both_ways(self):
        for entry in (Sell(4, 5, "tin", 5, 3, 3, [(3, 2), (4, 3)]), Give(4, 5, "tin", 5, [(3, 2), (4, 3)])):
            asked = entry.told()
            entered, corrected = ledger_of([entry]), ledger_of([Buy(0, 5, "tin", 1, 1)])
            corrected.correct(entry)
            entry.named.clear()
            for ledger in (entered, corrected):
                self.assertEqual(told(ledger.entries()), [asked])
                ledger.entries()[0].named.clear()
                self.assertEqual(told(ledger.entries()), [asked])
                kept = ledger.entries()
                ledger.strike(5).named.clear()
                self.assertEqual(told(kept), [asked])

    def test_what_refuses_keeps_nothing(self):
        ledger = ledger_of(history())
        for act in (lambda: ledger.enter(Buy(0, 10, "tin", 1, 1)), lambda: ledger.correct(Buy(0, 11, "tin", 1, 1)),
                    lambda: ledger.strike(11)):
            with self.assertRaises((Twice, NoNumber)):
                act()
        self.assertEqual(told(ledger.entries()), told(history()))
        self.assertEqual(all_told(ledger.book(Eldest())), all_told(book_of(Eldest(), history())))


class Books(unittest.TestCase):
    def test_plain_and_laying(self):
        ledger = ledger_of(history()[::-1])
        for word in WORDS:
            self.assertEqual(all_told(ledger.book(way_by(word))), all_told(book_of(way_by(word), history())))
            self.assertEqual(all_told(ledger.book(way_by(word), None)), all_told(book_of(way_by(word), history())))
            for days in (0, 1, 10 ** 6):
                asked = laying_book_of(way_by(word), days, history())
                self.assertEqual(all_told(ledger.book(way_by(word), days)), all_told(asked))

    def test_their_classes(self):
        ledger = ledger_of(history())
        self.assertIs(type(ledger.book(Eldest())), Book)
        self.assertIs(type(ledger.book(Eldest(), None)), Book)
        for days in (0, 7):
            book = ledger.book(Eldest(), days)
            self.assertIs(type(book), LayingBook)
            self.assertEqual((book.days, book.way.word()), (days, "eldest"))

    def test_0_days_are_not_none(self):
        ledger = ledger_of(history())
        self.assertEqual([sale.laid_on for sale in ledger.book(Eldest()).sales()], [None, None])
        # The buy of number 6 is on the day of the sell of number 5.
        self.assertEqual([sale.laid_on for sale in ledger.book(Eldest(), 0).sales()], [6, None])

    def test_books_and_the_ledger_share_nothing(self):
        ledger = ledger_of(history())
        one = ledger.book(Eldest(), 5)
        before = all_told(one)
        ledger.strike(9)
        ledger.correct(Buy(1, 10, "tin", 400, 5, 2))
        self.assertEqual(all_told(one), before)
        ledger = ledger_of(history())
        ledger.book(Eldest()).do(Buy(99, 99, "zinc", 1, 1))
        self.assertEqual(told(ledger.entries()), told(history()))
        self.assertNotIn("zinc", ledger.book(Eldest()).held())

    def assert_refused(self, error, number, entries):
        ledger = ledger_of(entries)
        kept = told(ledger.entries())
        for days in (None, 0, 5):
            with self.assertRaises(error) as refused:
                ledger.book(Eldest(), days)
            self.assertIs(type(refused.exception), error)
            self.assertEqual(refused.exception.number, number)
            self.assertEqual(told(ledger.entries()), kept)

    def test_refused_as_book_of(self):
        buy = Buy(1, 1, "tin", 2, 1)
        self.assert_refused(NotHeld, 3, [Give(3, 2, "tin", 1, [(9, 1)]), Sell(2, 3, "tin", 3, 1), buy])
        self.assert_refused(NoLot, 3, [Sell(3, 2, "tin", 3, 1), Give(2, 3, "tin", 1, [(9, 1)]), buy])
        self.assert_refused(NotHeld, 2, [Split(2, 2, "tin", 1, 3), buy])

    def test_what_was_refused_may_be_corrected(self):
        ledger = ledger_of([Buy(1, 1, "tin", 2, 1), Sell(2, 2, "tin", 3, 1)])
        with self.assertRaises(NotHeld):
            ledger.book(Eldest())
        ledger.correct(Sell(2, 2, "tin", 2, 1))
        self.assertEqual(ledger.book(Eldest()).held(), {})
        ledger.correct(Sell(0, 2, "tin", 2, 1))
        with self.assertRaises(NotHeld):
            ledger.book(Eldest())
        ledger.strike(2)
        self.assertEqual(ledger.book(Eldest()).held(), {"tin": 2})


class LateCorrections(unittest.TestCase):
    """What was struck or corrected late leaves the book of a history that was right at first."""

    def wrong_ledger(self, chance):
        """A ledger that has the right entries in the end, in whatever order, and by detours."""
        ledger, right = Ledger(), history()
        chance.shuffle(right)
        for entry in right:
            extra = Buy(chance.randrange(9), 50 + entry.number, "tin", 9, 9)
            wrong = chance.choice((Buy, Sell))(chance.randrange(9), entry.number, "ore", 7, 7, 7)
            acts = chance.choice((
                [lambda: ledger.enter(entry)],
                [lambda: ledger.enter(wrong), lambda: ledger.correct(entry)],
                [lambda: ledger.enter(wrong), lambda: ledger.strike(entry.number), lambda: ledger.enter(entry)],
                [lambda: ledger.enter(extra), lambda: ledger.enter(entry), lambda: ledger.strike(extra.number)],
                [lambda: ledger.enter(entry), lambda: ledger.correct(wrong), lambda: ledger.correct(entry)],
            ))
            for act in acts:
                act()
        return ledger

    def test_many_detours(self):
        chance = random.Random(24)
        asked = {(word, None): all_told(book_of(way_by(word), history())) for word in WORDS}
        for word, days in itertools.product(WORDS, (0, 5)):
            asked[word, days] = all_told(laying_book_of(way_by(word), days, history()))
        for _ in range(100):
            ledger = self.wrong_ledger(chance)
            self.assertEqual(told(ledger.entries()), told(history()))
            for word, days in asked:
                self.assertEqual(all_told(ledger.book(way_by(word), days)), asked[word, days])


if __name__ == "__main__":
    unittest.main()
