"""Point 3, for many histories made by a told rule, by each way, in plain and in laying books."""

import itertools
import random
import unittest

from lotledger.books import Book, book_of
from lotledger.entries import Buy, Gift, Give, Parting, Sell, Split
from lotledger.errors import NoLot
from lotledger.gains import gain_rows, gain_till, gains_between
from lotledger.held import held_after
from lotledger.laying import LayingBook, laying_book_of
from lotledger.ledgers import Ledger
from lotledger.lots import pieces_in
from lotledger.sheets import read_entries, report_of, shown_entries
from lotledger.ways import way_by
from helper import WARES, WORDS, all_told, told

# None for a plain book.
DAYS = (None, 0, 2, 7, 10 ** 6)
ALL_KINDS = ("buy", "buy", "gift", "sell", "give", "split", "part")
WITHOUT_GIVING = ("buy", "buy", "gift", "sell", "split", "part")


class Maker:
    """Makes a history that can be done by a way, entry by entry, beside a book of that way."""

    def __init__(self, seed, word, names_lots, days=None):
        self.chance = random.Random(seed)
        self.book = new_book(word, days)
        self.names_lots = names_lots
        self.entries = []
        self.day = 0

    def add(self, make, *values):
        self.day += self.chance.randrange(3)
        entry = make(self.day, len(self.entries), *values)
        self.book.do(entry)
        self.entries.append(entry)

    def named(self, ware, pieces):
        """Lots of the row in a chance order that come to the pieces, or None."""
        if not self.names_lots or self.chance.random() < 0.5:
            return None
        lots = self.book.row_of(ware)
        self.chance.shuffle(lots)
        named = []
        for lot in lots:
            going = min(lot.pieces, pieces - sum(pick[1] for pick in named))
            if going > 0:
                named.append((lot.number, going))
        return named

    def add_one(self, kind):
        chance, ware = self.chance, self.chance.choice(WARES)
        held = self.book.held().get(ware, 0)
        pieces = chance.randrange(1, held + 1) if held else chance.randrange(1, 9)
        if kind == "buy":
            self.add(Buy, ware, chance.randrange(1, 9), chance.randrange(12), chance.choice((0, 0, 3)))
        elif kind == "gift":
            self.add(Gift, ware, chance.randrange(1, 9), chance.randrange(50), chance.randrange(self.day + 1))
        elif kind == "sell" and held:
            self.add(Sell, ware, pieces, chance.randrange(12), chance.choice((0, 2, 40)), self.named(ware, pieces))
        elif kind == "give" and held:
            self.add(Give, ware, pieces, self.named(ware, pieces))
        elif kind == "split":
            many, of = chance.choice(((2, 1), (3, 2), (1, 2), (2, 3), (1, 5)))
            if not held or held * many // of:
                self.add(Split, ware, many, of)
        elif kind == "part":
            other = chance.choice([name for name in WARES if name != ware])
            whole = chance.randrange(1, 6)
            self.add(Parting, ware, other, chance.randrange(whole + 1), whole)

    def sell_all(self):
        for ware, pieces in self.book.held().items():
            self.add(Sell, ware, pieces, self.chance.randrange(12), 1, self.named(ware, pieces))


def new_book(word, days):
    return Book(way_by(word)) if days is None else LayingBook(way_by(word), days)


def made_book(word, days, entries):
    return book_of(way_by(word), entries) if days is None else laying_book_of(way_by(word), days, entries)


def a_history(seed, word, kinds, names_lots, leaves_nothing=False, days=None):
    maker = Maker(seed, word, names_lots, days)
    for _ in range(maker.chance.randrange(1, 50)):
        maker.add_one(maker.chance.choice(kinds))
    if leaves_nothing:
        maker.sell_all()
    return maker.entries


def mixed(entries, seed):
    turned = list(entries)
    random.Random(seed).shuffle(turned)
    return turned


class Whole(unittest.TestCase):
    def assert_book(self, book, entries, days):
        held = held_after(entries)
        self.assertEqual(book.held(), held)
        for ware in WARES:
            row = book.row_of(ware)
            self.assertEqual(pieces_in(row), held.get(ware, 0))
            self.assertTrue(all(lot.pieces > 0 and lot.cost >= 0 for lot in row))
            places = [(lot.since, lot.number) for lot in row]
            self.assertEqual(places, sorted(set(places)))
        laid = self.asked_layings(book, entries, days)
        self.assert_costs(book, entries, sum(loss for _, _, loss in laid))
        self.assert_sales(book, entries, {sell: buy for sell, buy, _ in laid})
        if days is not None:
            self.assertEqual(book.laid(), laid)
            self.assert_costs_of_lots(book, entries, laid)
        self.assert_gains(book)

    def asked_layings(self, book, entries, days):
        """What is to be laid: each loss once, whole, on the first buy of its ware behind it, if that is soon enough."""
        if days is None:
            return []
        layings = []
        for place, buy in enumerate(entries):
            ahead = [entry for entry in entries[:place] if entry.ware == buy.ware]
            last_buy = max((entries.index(entry) for entry in ahead if entry.word() == "buy"), default=-1)
            between = [entry.number for entry in entries[last_buy + 1:place]]
            if buy.word() == "buy":
                layings.extend((sale.number, buy.number, -sale.gain()) for sale in book.sales()
                               if sale.ware == buy.ware and sale.number in between and sale.gain() < 0
                               and buy.day - sale.day <= days)
        return layings

    def assert_costs(self, book, entries, laid):
        sums = book.sums()
        self.assertEqual(sums["paid"], sum(entry.cost for entry in entries if entry.word() == "buy"))
        self.assertEqual(sums["brought"], sum(entry.cost for entry in entries if entry.word() == "gift"))
        self.assertEqual(sums["laid"], laid)
        self.assertEqual(sums["sold"], sum(part[3] for sale in book.sales() for part in sale.parts))
        self.assertEqual(sums["given"], sum(lot[3] for _, lots in book.given() for lot in lots))
        self.assertEqual(sums["left"], sum(lot.cost for ware in WARES for lot in book.row_of(ware)))
        self.assertEqual(sums["proceeds"], sum(entry.proceeds for entry in entries if entry.word() == "sell"))
        self.assertEqual(sums["paid"] + sums["brought"] + laid, sums["sold"] + sums["given"] + sums["left"])

    def assert_sales(self, book, entries, laid_on):
        sells = [entry for entry in entries if entry.word() == "sell"]
        self.assertEqual([sale.number for sale in book.sales()], [entry.number for entry in sells])
        for sale, entry in zip(book.sales(), sells):
            self.assertEqual((sale.day, sale.ware, sale.proceeds), (entry.day, entry.ware, entry.proceeds))
            self.assertEqual(sum(part[2] for part in sale.parts), entry.pieces)
            self.assertEqual(sum(part[4] for part in sale.parts), sale.proceeds)
            self.assertEqual(sum(part[4] - part[3] for part in sale.parts), sale.gain())
            self.assertEqual(sale.laid_on, laid_on.get(sale.number))
            self.assertEqual(sale.counted(), 0 if sale.number in laid_on else sale.gain())

    def assert_costs_of_lots(self, book, entries, laid):
        """A laying book has the lots of a plain one in which what is laid on a buy was paid with it as a fee."""
        raised = []
        for entry in entries:
            more = sum(loss for _, buy, loss in laid if buy == entry.number)
            if entry.word() == "buy":
                entry = Buy(entry.day, entry.number, entry.ware, entry.pieces, entry.price, entry.fee + more)
            raised.append(entry)
        plain = book_of(book.way, raised)
        self.assertEqual([told(book.row_of(ware)) for ware in WARES], [told(plain.row_of(ware)) for ware in WARES])
        self.assertEqual([sale.parts for sale in book.sales()], [sale.parts for sale in plain.sales()])
        self.assertEqual(book.given(), plain.given())

    def assert_gains(self, book):
        counted = sum(sale.counted() for sale in book.sales())
        for long in (0, 3, 10 ** 6):
            self.assertEqual(sum(row[4] for row in gain_rows(book, long)), counted)
            self.assertEqual(sum(gains_between(book, long, 0, 10 ** 6).values()), counted)
        self.assertEqual(gain_till(book, 10 ** 6), counted)
        self.assertTrue(report_of(book).endswith(f"gain {counted}\n"))

    def test_every_history_by_every_way(self):
        laid = 0
        for seed, word in itertools.product(range(80), WORDS):
            entries = a_history(seed, "eldest", ALL_KINDS, False)
            for days in DAYS:
                with self.subTest(seed=seed, word=word, days=days):
                    book = made_book(word, days, mixed(entries, seed))
                    self.assert_book(book, entries, days)
                    laid += book.sums()["laid"] > 0
        self.assertGreater(laid, 300)

    def test_histories_with_named_lots(self):
        for seed, days in itertools.product(range(60), DAYS):
            word = WORDS[seed % 4]
            entries = a_history(seed, word, ALL_KINDS, True, False, days)
            with self.subTest(seed=seed, word=word, days=days):
                self.assert_book(made_book(word, days, mixed(entries, seed)), entries, days)

    def test_what_was_struck_or_corrected_late_leaves_the_book_of_a_right_history(self):
        for seed in range(60):
            word, days = WORDS[seed % 4], DAYS[seed % 5]
            entries = a_history(seed, word, ALL_KINDS, True, False, days)
            chance = random.Random(seed)
            ledger = Ledger()
            for entry in mixed(entries, seed):
                ledger.enter(chance.choice((entry, Sell(chance.randrange(50), entry.number, "tin", 9, 9))))
                if chance.random() < 0.3:
                    ledger.enter(Buy(chance.randrange(50), entry.number + 100, "ore", 9, 9))
            for number in [entry.number for entry in ledger.entries() if entry.number >= 100]:
                ledger.strike(number)
            for entry in mixed(entries, seed + 1):
                if entry.told() not in [kept.told() for kept in ledger.entries()]:
                    ledger.correct(entry)
            with self.subTest(seed=seed, word=word, days=days):
                self.assertEqual(told(ledger.entries()), told(entries))
                self.assertEqual(all_told(ledger.book(way_by(word), days)), all_told(made_book(word, days, entries)))

    def test_what_is_shown_is_read_as_the_same(self):
        for seed in range(60):
            entries = a_history(seed, WORDS[seed % 4], ALL_KINDS, True)
            text = shown_entries(mixed(entries, seed))
            self.assertEqual(told(read_entries(text)), told(entries))
            turned = "".join(row + "\n" for row in mixed(text.split("\n")[:-1], seed))
            self.assertEqual(shown_entries(read_entries(turned)), text)

    def test_what_leaves_nothing_gains_the_same_by_each_way_with_losses_laid_or_not(self):
        by_several_ways = 0
        for seed in range(120):
            entries = a_history(seed, WORDS[seed % 4], WITHOUT_GIVING, seed % 2 == 1, True, DAYS[seed % 5])
            gains = []
            for word, days in itertools.product(WORDS, DAYS):
                try:
                    book = made_book(word, days, entries)
                except NoLot:
                    continue
                self.assertEqual((book.held(), book.sums()["left"]), ({}, 0))
                gains.append(sum(sale.counted() for sale in book.sales()))
            by_several_ways += len(gains) > 5
            self.assertEqual(len(set(gains)), 1, seed)
        self.assertGreater(by_several_ways, 60)


class DearestGainsLeast(unittest.TestCase):
    """Where there are but buys without fees, and sells."""

    def gains_by_days(self, book, last_day):
        return [sum(sale.gain() for sale in book.sales() if sale.day <= day) for day in range(last_day + 1)]

    def assert_least(self, books, dearest, last_day):
        least = self.gains_by_days(dearest, last_day)
        for book in books:
            gains = self.gains_by_days(book, last_day)
            self.assertTrue(all(gain <= other for gain, other in zip(least, gains)), (least, gains))

    def buys_and_sells(self, seed):
        maker = Maker(seed, "dearest", False)
        for _ in range(30):
            if maker.book.held() and maker.chance.random() < 0.5:
                maker.add_one("sell")
            else:
                maker.add(Buy, maker.chance.choice(WARES), maker.chance.randrange(1, 6), maker.chance.randrange(20))
        return maker.entries

    def with_chance_lots(self, entries, seed):
        """A book of the same entries, in which each sell names lots by chance."""
        maker = Maker(seed, "eldest", True)
        for entry in entries:
            if entry.word() == "sell":
                named = maker.named(entry.ware, entry.pieces)
                entry = Sell(entry.day, entry.number, entry.ware, entry.pieces, entry.price, entry.fee, named)
            maker.book.do(entry)
        return maker.book

    def test_than_by_any_other_way(self):
        for seed in range(100):
            entries = self.buys_and_sells(seed)
            books = [book_of(way_by(word), entries) for word in WORDS]
            self.assert_least(books, books[WORDS.index("dearest")], entries[-1].day)

    def test_than_with_named_lots(self):
        for seed in range(100):
            entries = self.buys_and_sells(seed)
            books = [self.with_chance_lots(entries, turn) for turn in range(10)]
            self.assert_least(books, book_of(way_by("dearest"), entries), entries[-1].day)

    def test_than_with_any_named_lots_at_all(self):
        """All choices of lots for three sells of a small history."""
        buys = [Buy(0, 1, "tin", 2, 3), Buy(0, 2, "tin", 2, 8), Buy(0, 3, "tin", 1, 5)]
        later = Buy(2, 5, "tin", 2, 6)
        all_named = [[pick for pick in zip((1, 2, 3, 5), counts) if pick[1]]
                     for counts in itertools.product(range(3), repeat=4) if sum(counts) == 2]
        least = book_of(way_by("dearest"), buys + [Sell(1, 4, "tin", 2, 6), later, Sell(3, 6, "tin", 2, 1, 4),
                                                   Sell(4, 7, "tin", 2, 9)])
        done = 0
        for first, second, third in itertools.product(all_named, repeat=3):
            entries = buys + [Sell(1, 4, "tin", 2, 6, 0, first), later, Sell(3, 6, "tin", 2, 1, 4, second),
                              Sell(4, 7, "tin", 2, 9, 0, third)]
            try:
                book = book_of(way_by("eldest"), entries)
            except NoLot:
                continue
            done += 1
            self.assert_least([book], least, 4)
        self.assertGreater(done, 50)


if __name__ == "__main__":
    unittest.main()
