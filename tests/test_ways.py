"""Points 13, 14 and 15: the ways in which lots go."""

import fractions
import inspect
import itertools
import random
import unittest

from lotledger.errors import NoLot, NoWay
from lotledger.lots import cost_in, pieces_in
from lotledger.ways import Dearest, Eldest, Mean, Newest, Way, gone_from, way_by
from helper import row, told

# Costs for each piece: 5, 7, 5, 9 and 3 for each two.
TUPLES = [(8, 2, 4, 20), (5, 4, 2, 14), (9, 4, 3, 15), (0, 6, 1, 9), (2, 7, 2, 3)]
WORDS = ("eldest", "newest", "dearest", "mean")


def some_rows():
    """Rows of one to six lots with many alike costs for each piece among them."""
    chance = random.Random(13)
    for count in list(range(1, 7)) * 20:
        numbers = chance.sample(range(20), count)
        lots = [(number, chance.randrange(5), chance.randrange(1, 5), chance.randrange(12)) for number in numbers]
        yield sorted(lots, key=lambda lot: (lot[1], lot[0]))


def in_turn(word, tuples):
    """The lots as they go, reckoned otherwise than in the program."""
    if word == "newest":
        return tuples[::-1]
    if word == "dearest":
        return sorted(tuples, key=lambda lot: -fractions.Fraction(lot[3], lot[2]))
    return tuples


def picks_piece_by_piece(lots, pieces):
    all_pieces = [lot[0] for lot in lots for _ in range(lot[2])][:pieces]
    return [(number, len(list(group))) for number, group in itertools.groupby(all_pieces)]


class Interface(unittest.TestCase):
    def test_classes(self):
        kinds = (Eldest, Newest, Dearest, Mean)
        for kind in kinds:
            self.assertTrue(issubclass(kind, Way))
        self.assertEqual([(a, b) for a in kinds for b in kinds if a is not b and issubclass(a, b)], [(Mean, Eldest)])

    def test_arguments(self):
        for kind in (Eldest, Newest, Dearest, Mean):
            self.assertEqual(str(inspect.signature(kind)), "()")
            self.assertEqual(str(inspect.signature(kind.word)), "(self)")
            self.assertEqual(str(inspect.signature(kind.picks)), "(self, lots, pieces)")
            self.assertEqual(str(inspect.signature(kind.levelled)), "(self, lots)")
        self.assertEqual(str(inspect.signature(way_by)), "(word)")
        self.assertEqual(str(inspect.signature(gone_from)), "(way, lots, pieces, named)")


class Words(unittest.TestCase):
    def test_the_word_of_each_way(self):
        self.assertEqual([kind().word() for kind in (Eldest, Newest, Dearest, Mean)], list(WORDS))

    def test_way_by(self):
        for word, kind in zip(WORDS, (Eldest, Newest, Dearest, Mean)):
            self.assertIs(type(way_by(word)), kind)
            self.assertEqual(way_by(word).word(), word)

    def test_any_other_text_is_refused(self):
        others = ["", " ", "\n", "oldest", "named", "way", "means", "eldestnewest", "eldest mean"]
        for word in WORDS:
            others.extend([word.upper(), word.capitalize(), word[:-1] + word[-1].upper()])
            others.extend([" " + word, word + " ", word + "\n", word[0] + " " + word[1:], word[:-1], word[1:]])
        for text in others:
            with self.subTest(text=text), self.assertRaises(NoWay):
                way_by(text)


class Picks(unittest.TestCase):
    def assert_picks(self, way, pieces, asked, tuples=None):
        tuples = TUPLES if tuples is None else tuples
        handed = row(*tuples)
        kept = list(handed)
        with self.subTest(way.word(), pieces=pieces, tuples=tuples):
            told_picks = way.picks(handed, pieces)
            self.assertIsInstance(told_picks, list)
            self.assertEqual(told_picks, asked)
            self.assertTrue(all(type(pick) is tuple for pick in told_picks))
            told_picks.append((99, 99))
            self.assertEqual(way.picks(handed, pieces), asked)
            self.assertEqual([id(lot) for lot in handed], [id(lot) for lot in kept])
            self.assertEqual(told(handed), list(tuples))

    def test_eldest_and_mean(self):
        for way in (Eldest(), Mean()):
            self.assert_picks(way, 1, [(8, 1)])
            self.assert_picks(way, 4, [(8, 4)])
            self.assert_picks(way, 5, [(8, 4), (5, 1)])
            self.assert_picks(way, 9, [(8, 4), (5, 2), (9, 3)])
            self.assert_picks(way, 12, [(8, 4), (5, 2), (9, 3), (0, 1), (2, 2)])

    def test_newest(self):
        self.assert_picks(Newest(), 1, [(2, 1)])
        self.assert_picks(Newest(), 2, [(2, 2)])
        self.assert_picks(Newest(), 4, [(2, 2), (0, 1), (9, 1)])
        self.assert_picks(Newest(), 12, [(2, 2), (0, 1), (9, 3), (5, 2), (8, 4)])

    def test_dearest(self):
        self.assert_picks(Dearest(), 1, [(0, 1)])
        self.assert_picks(Dearest(), 2, [(0, 1), (5, 1)])
        self.assert_picks(Dearest(), 3, [(0, 1), (5, 2)])
        self.assert_picks(Dearest(), 8, [(0, 1), (5, 2), (8, 4), (9, 1)])
        self.assert_picks(Dearest(), 12, [(0, 1), (5, 2), (8, 4), (9, 3), (2, 2)])

    def test_dearest_of_alike_ones_by_the_rows_order(self):
        alike = [(7, 1, 1, 3), (9, 1, 3, 9), (0, 2, 2, 6), (3, 2, 10, 30)]
        self.assert_picks(Dearest(), 16, [(7, 1), (9, 3), (0, 2), (3, 10)], alike)
        self.assert_picks(Dearest(), 2, [(7, 1), (9, 1)], alike)
        # All without a cost are alike, too.
        self.assert_picks(Dearest(), 4, [(5, 3), (1, 1)], [(5, 0, 3, 0), (1, 1, 1, 0), (0, 2, 9, 0)])

    def test_dearest_by_exact_fractions(self):
        great = 10 ** 60
        close = [(1, 1, great + 1, great + 2), (2, 2, great, great + 1), (3, 3, great + 2, great + 3)]
        self.assert_picks(Dearest(), great + 5, [(2, great), (1, 5)], close)
        # 7 for 2 are dearer than 10 for 3, though both have a whole part of 3.
        self.assert_picks(Dearest(), 3, [(2, 2), (1, 1)], [(1, 1, 3, 10), (2, 2, 2, 7)])

    def test_one_lot(self):
        for word in WORDS:
            for pieces in (1, 3, 4):
                self.assert_picks(way_by(word), pieces, [(6, pieces)], [(6, 1, 4, 9)])

    def test_piece_by_piece(self):
        for tuples in some_rows():
            for word in WORDS:
                turn = in_turn(word, tuples)
                for pieces in range(1, sum(lot[2] for lot in tuples) + 1):
                    asked = picks_piece_by_piece(turn, pieces)
                    self.assertEqual(way_by(word).picks(row(*tuples), pieces), asked, (word, tuples))


class Levelled(unittest.TestCase):
    def assert_levelled(self, way, tuples, asked):
        handed = row(*tuples)
        kept = list(handed)
        made = way.levelled(handed)
        self.assertIsInstance(made, list)
        self.assertEqual(told(made), asked)
        made.clear()
        self.assertEqual([id(lot) for lot in handed], [id(lot) for lot in kept])
        self.assertEqual(told(handed), list(tuples))
        self.assertEqual(told(way.levelled(handed)), asked)

    def test_mean(self):
        # 61 for 12 pieces: 61 * 4 // 12 = 20, * 6 -> 30, * 9 -> 45, * 10 -> 50, * 12 -> 61.
        asked = [(8, 2, 4, 20), (5, 4, 2, 10), (9, 4, 3, 15), (0, 6, 1, 5), (2, 7, 2, 11)]
        self.assert_levelled(Mean(), TUPLES, asked)
        self.assert_levelled(Mean(), [(1, 1, 1, 0), (2, 2, 1, 5)], [(1, 1, 1, 2), (2, 2, 1, 3)])

    def test_mean_of_one_lot_of_none_and_of_no_costs(self):
        self.assert_levelled(Mean(), [(4, 3, 7, 100)], [(4, 3, 7, 100)])
        self.assert_levelled(Mean(), [], [])
        self.assert_levelled(Mean(), [(1, 1, 2, 0), (2, 2, 3, 0)], [(1, 1, 2, 0), (2, 2, 3, 0)])

    def test_by_the_other_ways_the_row_is_as_it_was(self):
        for way in (Eldest(), Newest(), Dearest()):
            self.assert_levelled(way, TUPLES, TUPLES)
            self.assert_levelled(way, [], [])

    def test_costs_are_dealt_by_pieces_and_come_to_the_sum(self):
        for tuples in some_rows():
            made = Mean().levelled(row(*tuples))
            cost, pieces = sum(lot[3] for lot in tuples), sum(lot[2] for lot in tuples)
            self.assertEqual(cost_in(made), cost)
            self.assertEqual([lot.told()[:3] for lot in made], [lot[:3] for lot in tuples])
            for many in range(len(made) + 1):
                self.assertEqual(cost_in(made[:many]), cost * pieces_in(made[:many]) // pieces)

    def test_levelled_again_the_same(self):
        for tuples in some_rows():
            once = Mean().levelled(row(*tuples))
            self.assertEqual(told(Mean().levelled(once)), told(once))

    def test_great_ones_are_exact(self):
        great = 10 ** 90
        made = Mean().levelled(row((1, 1, great, 1), (2, 2, 1, great)))
        self.assertEqual(told(made), [(1, 1, great, great), (2, 2, 1, 1)])


class GoneFrom(unittest.TestCase):
    def assert_gone(self, way, pieces, named, taken, left, tuples=None):
        tuples = TUPLES if tuples is None else tuples
        handed = row(*tuples)
        kept, kept_named = list(handed), None if named is None else list(named)
        with self.subTest(way.word(), pieces=pieces, named=named):
            made = gone_from(way, handed, pieces, named)
            self.assertIsInstance(made, tuple)
            self.assertEqual([type(part) for part in made], [list, list])
            self.assertEqual((told(made[0]), told(made[1])), (taken, left))
            made[0].clear()
            made[1].clear()
            self.assertEqual([id(lot) for lot in handed], [id(lot) for lot in kept])
            self.assertEqual(told(handed), list(tuples))
            self.assertEqual(named, kept_named)

    def test_without_named_lots(self):
        self.assert_gone(Eldest(), 5, None, [(8, 2, 4, 20), (5, 4, 1, 7)], [(5, 4, 1, 7)] + TUPLES[2:])
        self.assert_gone(Newest(), 4, None, [(2, 7, 2, 3), (0, 6, 1, 9), (9, 4, 1, 5)], TUPLES[:2] + [(9, 4, 2, 10)])
        self.assert_gone(
            Dearest(), 4, None,
            [(0, 6, 1, 9), (5, 4, 2, 14), (8, 2, 1, 5)], [(8, 2, 3, 15), (9, 4, 3, 15), (2, 7, 2, 3)],
        )
        self.assert_gone(
            Mean(), 5, None,
            [(8, 2, 4, 20), (5, 4, 1, 5)], [(5, 4, 1, 5), (9, 4, 3, 15), (0, 6, 1, 5), (2, 7, 2, 11)],
        )

    def test_with_named_lots(self):
        for way in (Eldest(), Newest(), Dearest()):
            self.assert_gone(
                way, 4, [(9, 2), (8, 1), (0, 1)],
                [(9, 4, 2, 10), (8, 2, 1, 5), (0, 6, 1, 9)],
                [(8, 2, 3, 15), (5, 4, 2, 14), (9, 4, 1, 5), (2, 7, 2, 3)],
            )

    def test_named_lots_go_at_the_mean_by_mean(self):
        self.assert_gone(
            Mean(), 3, [(0, 1), (2, 2)],
            [(0, 6, 1, 5), (2, 7, 2, 11)], [(8, 2, 4, 20), (5, 4, 2, 10), (9, 4, 3, 15)],
        )

    def test_all_go(self):
        for word in WORDS:
            taken, left = gone_from(way_by(word), row(*TUPLES), 12, None)
            self.assertEqual((pieces_in(taken), cost_in(taken), left), (12, 61, []))
        self.assert_gone(Newest(), 4, [(6, 4)], [(6, 1, 4, 9)], [], [(6, 1, 4, 9)])

    def test_named_lots_that_arent_there(self):
        cases = (([(7, 1)], 7), ([(8, 5)], 8), ([(8, 4), (3, 1), (0, 2)], 3), ([(0, 2), (3, 1)], 0))
        for word, (named, number) in itertools.product(WORDS, cases):
            handed, kept_named = row(*TUPLES), list(named)
            kept = list(handed)
            with self.subTest(word, named=named):
                with self.assertRaises(NoLot) as refused:
                    gone_from(way_by(word), handed, sum(pick[1] for pick in named), named)
                self.assertEqual(refused.exception.number, number)
                self.assertEqual([id(lot) for lot in handed], [id(lot) for lot in kept])
                self.assertEqual(told(handed), TUPLES)
                self.assertEqual(named, kept_named)

    def test_nothing_is_lost(self):
        for tuples in some_rows():
            cost, pieces = sum(lot[3] for lot in tuples), sum(lot[2] for lot in tuples)
            for word, many in itertools.product(WORDS, range(1, pieces + 1)):
                taken, left = gone_from(way_by(word), row(*tuples), many, None)
                self.assertEqual((pieces_in(taken), pieces_in(left)), (many, pieces - many))
                self.assertEqual(cost_in(taken) + cost_in(left), cost)
                places = [(lot.since, lot.number) for lot in left]
                self.assertEqual(places, sorted(places))


if __name__ == "__main__":
    unittest.main()
