"""Point 3, as far as plain books go, for many histories made by a told rule."""

import random
import unittest

from lotledger.books import Book, book_of
from lotledger.entries import Buy, Gift, Give, Parting, Sell, Split
from lotledger.errors import NoLot
from lotledger.held import held_after
from lotledger.lots import pieces_in
from lotledger.ways import way_by

WORDS = ("eldest", "newest", "dearest", "mean")
WARES = ("tin", "ore", "zinc")
ALL_KINDS = ("buy", "buy", "gift", "sell", "give", "split", "part")
WITHOUT_GIVING = ("buy", "buy", "gift", "sell", "split", "part")


class Maker:
    """Makes a history that can be done by a way, entry by entry, beside a book of that way."""

    def __init__(self, seed, word, names_lots):
        self.chance = random.Random(seed)
        self.book = Book(way_by(word))
        self.names_lots = names_lots
        self.entries = []
        self.day = 0

    def add(self, make, *values):
        self.day += self.chance.randrange(3)
        entry = make(self.day, len(self.entries), *values)
        self.book.do(entry)
        self.entries.append(entry)

    def named(self, ware, pieces):
        """Lots of the row in a chance order that come to the pieces, or None."""
        if not self.names_lots or self.chance.random() < 0.5:
            return None
        lots = self.book.row_of(ware)
        self.chance.shuffle(lots)
        named = []
        for lot in lots:
            going = min(lot.pieces, pieces - sum(pick[1] for pick in named))
            if going > 0:
                named.append((lot.number, going))
        return named

    def add_one(self, kind):
        chance, ware = self.chance, self.chance.choice(WARES)
        held = self.book.held().get(ware, 0)
        pieces = chance.randrange(1, held + 1) if held else chance.randrange(1, 9)
        if kind == "buy":
            self.add(Buy, ware, chance.randrange(1, 9), chance.randrange(12), chance.choice((0, 0, 3)))
        elif kind == "gift":
            self.add(Gift, ware, chance.randrange(1, 9), chance.randrange(50), chance.randrange(self.day + 1))
        elif kind == "sell" and held:
            self.add(Sell, ware, pieces, chance.randrange(12), chance.choice((0, 2, 40)), self.named(ware, pieces))
        elif kind == "give" and held:
            self.add(Give, ware, pieces, self.named(ware, pieces))
        elif kind == "split":
            many, of = chance.choice(((2, 1), (3, 2), (1, 2), (2, 3), (1, 5)))
            if not held or held * many // of:
                self.add(Split, ware, many, of)
        elif kind == "part":
            other = chance.choice([name for name in WARES if name != ware])
            whole = chance.randrange(1, 6)
            self.add(Parting, ware, other, chance.randrange(whole + 1), whole)

    def sell_all(self):
        for ware, pieces in self.book.held().items():
            self.add(Sell, ware, pieces, self.chance.randrange(12), 1, self.named(ware, pieces))


def a_history(seed, word, kinds, names_lots, leaves_nothing=False):
    maker = Maker(seed, word, names_lots)
    for _ in range(maker.chance.randrange(1, 50)):
        maker.add_one(maker.chance.choice(kinds))
    if leaves_nothing:
        maker.sell_all()
    return maker.entries


def mixed(entries, seed):
    told = list(entries)
    random.Random(seed).shuffle(told)
    return told


class Whole(unittest.TestCase):
    def assert_book(self, book, entries):
        held = held_after(entries)
        self.assertEqual(book.held(), held)
        for ware in WARES:
            row = book.row_of(ware)
            self.assertEqual(pieces_in(row), held.get(ware, 0))
            self.assertTrue(all(lot.pieces > 0 and lot.cost >= 0 for lot in row))
            places = [(lot.since, lot.number) for lot in row]
            self.assertEqual(places, sorted(set(places)))
        self.assert_costs(book, entries)
        self.assert_sales(book, entries)

    def assert_costs(self, book, entries):
        sums = book.sums()
        self.assertEqual(sums["paid"], sum(entry.cost for entry in entries if entry.word() == "buy"))
        self.assertEqual(sums["brought"], sum(entry.cost for entry in entries if entry.word() == "gift"))
        self.assertEqual(sums["laid"], 0)
        self.assertEqual(sums["sold"], sum(part[3] for sale in book.sales() for part in sale.parts))
        self.assertEqual(sums["given"], sum(lot[3] for _, lots in book.given() for lot in lots))
        self.assertEqual(sums["left"], sum(lot.cost for ware in WARES for lot in book.row_of(ware)))
        self.assertEqual(sums["proceeds"], sum(entry.proceeds for entry in entries if entry.word() == "sell"))
        self.assertEqual(sums["paid"] + sums["brought"], sums["sold"] + sums["given"] + sums["left"])

    def assert_sales(self, book, entries):
        sells = [entry for entry in entries if entry.word() == "sell"]
        self.assertEqual([sale.number for sale in book.sales()], [entry.number for entry in sells])
        for sale, entry in zip(book.sales(), sells):
            self.assertEqual((sale.day, sale.ware, sale.proceeds), (entry.day, entry.ware, entry.proceeds))
            self.assertEqual(sum(part[2] for part in sale.parts), entry.pieces)
            self.assertEqual(sum(part[4] for part in sale.parts), sale.proceeds)
            self.assertEqual(sum(part[4] - part[3] for part in sale.parts), sale.gain())
            self.assertEqual((sale.counted(), sale.laid_on), (sale.gain(), None))

    def test_every_history_by_every_way(self):
        for seed in range(150):
            entries = a_history(seed, "eldest", ALL_KINDS, False)
            for word in WORDS:
                with self.subTest(seed=seed, word=word):
                    self.assert_book(book_of(way_by(word), mixed(entries, seed)), entries)

    def test_histories_with_named_lots(self):
        for seed in range(150):
            word = WORDS[seed % 4]
            entries = a_history(seed, word, ALL_KINDS, True)
            with self.subTest(seed=seed, word=word):
                self.assert_book(book_of(way_by(word), mixed(entries, seed)), entries)

    def test_what_leaves_nothing_gains_the_same_by_each_way(self):
        by_several_ways = 0
        for seed in range(200):
            entries = a_history(seed, WORDS[seed % 4], WITHOUT_GIVING, seed % 2 == 1, True)
            gains = []
            for word in WORDS:
                try:
                    book = book_of(way_by(word), entries)
                except NoLot:
                    continue
                self.assertEqual((book.held(), book.sums()["left"]), ({}, 0))
                gains.append(sum(sale.counted() for sale in book.sales()))
            by_several_ways += len(gains) > 1
            self.assertEqual(len(set(gains)), 1, seed)
        self.assertGreater(by_several_ways, 100)

    def test_of_buys_without_fees_and_sells_the_dearest_way_gains_least_by_each_day(self):
        for seed in range(100):
            maker = Maker(seed, "dearest", False)
            for _ in range(30):
                if maker.book.held() and maker.chance.random() < 0.5:
                    maker.add_one("sell")
                else:
                    maker.add(Buy, maker.chance.choice(WARES), maker.chance.randrange(1, 6), maker.chance.randrange(20))
            books = [book_of(way_by(word), maker.entries) for word in WORDS]
            for day in range(maker.day + 1):
                gains = [sum(sale.gain() for sale in book.sales() if sale.day <= day) for book in books]
                self.assertEqual(min(gains), gains[WORDS.index("dearest")], (seed, day))


if __name__ == "__main__":
    unittest.main()
