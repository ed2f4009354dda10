"""Points 16 and 17: rows split and parted."""

import inspect
import itertools
import random
import unittest

from lotledger.errors import NoPieces
from lotledger.lots import cost_in, pieces_in
from lotledger.splits import row_parted, row_split
from helper import row, told


def some_rows():
    chance = random.Random(16)
    for count in list(range(1, 8)) * 30:
        yield [(number, number // 2, chance.randrange(1, 6), chance.randrange(30)) for number in range(count)]


class Interface(unittest.TestCase):
    def test_arguments(self):
        self.assertEqual(str(inspect.signature(row_split)), "(lots, many, of)")
        self.assertEqual(str(inspect.signature(row_parted)), "(lots, share, whole)")


class RowSplit(unittest.TestCase):
    def assert_split(self, tuples, many, of, asked):
        handed = row(*tuples)
        kept = list(handed)
        with self.subTest(tuples=tuples, many=many, of=of):
            made = row_split(handed, many, of)
            self.assertIsInstance(made, list)
            self.assertEqual(told(made), asked)
            made.clear()
            self.assertEqual([id(lot) for lot in handed], [id(lot) for lot in kept])
            self.assertEqual(told(handed), tuples)
            self.assertEqual(told(row_split(handed, many, of)), asked)

    def test_more_of_each(self):
        self.assert_split([(4, 1, 3, 10)], 2, 1, [(4, 1, 6, 10)])
        self.assert_split([(4, 1, 3, 10), (2, 3, 5, 7)], 3, 2, [(4, 1, 4, 10), (2, 3, 8, 7)])
        self.assert_split([(4, 1, 10 ** 90, 10 ** 80)], 1000, 1, [(4, 1, 10 ** 93, 10 ** 80)])

    def test_as_many_of_each(self):
        tuples = [(4, 1, 3, 10), (2, 3, 1, 7)]
        self.assert_split(tuples, 1, 1, tuples)
        self.assert_split(tuples, 7, 7, tuples)

    def test_the_first_so_many_together_are_rounded(self):
        # Each by itself 3 // 2 = 1; together 3, 6 and 9 have 1, 3 and 4.
        self.assert_split([(1, 1, 3, 5), (2, 2, 3, 6), (3, 3, 3, 7)], 1, 2, [(1, 1, 1, 5), (2, 2, 2, 6), (3, 3, 1, 7)])

    def test_a_cost_is_laid_on_the_next_behind_that_has_some(self):
        self.assert_split([(1, 1, 1, 5), (2, 2, 1, 6)], 1, 2, [(2, 2, 1, 11)])
        self.assert_split([(1, 1, 1, 5), (2, 2, 1, 6), (3, 3, 1, 7), (4, 4, 9, 8)], 1, 4, [(4, 4, 3, 26)])
        self.assert_split(
            [(1, 1, 4, 5), (2, 2, 1, 6), (3, 3, 1, 7), (4, 4, 4, 8), (5, 5, 2, 9)], 1, 4,
            [(1, 1, 1, 5), (4, 4, 1, 21), (5, 5, 1, 9)],
        )

    def test_where_none_is_behind_on_the_last_ahead_that_has_some(self):
        self.assert_split([(1, 1, 2, 5), (2, 2, 1, 6)], 1, 2, [(1, 1, 1, 11)])
        self.assert_split([(1, 1, 3, 5), (2, 2, 3, 6), (3, 3, 1, 7), (4, 4, 1, 8)], 1, 3, [(1, 1, 1, 5), (2, 2, 1, 21)])

    def test_behind_and_ahead_in_one_row(self):
        self.assert_split([(1, 1, 1, 5), (2, 2, 1, 6), (3, 3, 1, 7)], 1, 2, [(2, 2, 1, 18)])
        self.assert_split(
            [(1, 1, 1, 1), (2, 2, 1, 10), (3, 3, 1, 100), (4, 4, 1, 1000), (5, 5, 1, 10000)], 1, 2,
            [(2, 2, 1, 11), (4, 4, 1, 11100)],
        )

    def test_the_least_that_is_left(self):
        self.assert_split([(1, 1, 999, 5), (2, 2, 1, 6)], 1, 1000, [(2, 2, 1, 11)])
        self.assert_split([(1, 1, 1000, 5), (2, 2, 999, 6)], 1, 1000, [(1, 1, 1, 11)])
        self.assert_split([(1, 1, 1, 5)], 999, 998, [(1, 1, 1, 5)])

    def test_no_lots_at_all(self):
        self.assert_split([], 2, 1, [])
        self.assert_split([], 1, 1000, [])

    def test_refused_where_none_would_have_any(self):
        cases = (([(1, 1, 1, 5)], 1, 2), ([(1, 1, 1, 5), (2, 2, 1, 6)], 1, 3), ([(1, 1, 999, 0)], 1, 1000),
                 ([(1, 1, 300, 5), (2, 2, 300, 6), (3, 3, 399, 0)], 1, 1000), ([(1, 1, 1, 5)], 998, 999))
        for tuples, many, of in cases:
            handed = row(*tuples)
            kept = list(handed)
            with self.subTest(tuples=tuples, many=many, of=of):
                with self.assertRaises(NoPieces):
                    row_split(handed, many, of)
                self.assertEqual([id(lot) for lot in handed], [id(lot) for lot in kept])
                self.assertEqual(told(handed), tuples)

    def test_pieces_and_costs_of_many_rows(self):
        for tuples in some_rows():
            for many, of in ((1, 1), (1, 2), (2, 3), (3, 2), (1, 5), (5, 7), (7, 3)):
                all_pieces = sum(lot[2] for lot in tuples)
                if all_pieces * many // of == 0:
                    with self.assertRaises(NoPieces):
                        row_split(row(*tuples), many, of)
                    continue
                made = row_split(row(*tuples), many, of)
                self.assertEqual(pieces_in(made), all_pieces * many // of)
                self.assertEqual(cost_in(made), sum(lot[3] for lot in tuples))
                self.assert_each_lot(tuples, made, many, of)

    def assert_each_lot(self, tuples, made, many, of):
        """Each lot by itself, its taker found by looking behind, then ahead."""
        together = [sum(lot[2] for lot in tuples[:count]) * many // of for count in range(len(tuples) + 1)]
        counts = [behind - ahead for ahead, behind in zip(together, together[1:])]
        with_some = [place for place, count in enumerate(counts) if count > 0]
        costs = dict.fromkeys(with_some, 0)
        for place, lot in enumerate(tuples):
            taker = min([other for other in with_some if other >= place], default=with_some[-1])
            costs[taker] += lot[3]
        asked = [tuples[place][:2] + (counts[place], costs[place]) for place in with_some]
        self.assertEqual(told(made), asked)


class RowParted(unittest.TestCase):
    TUPLES = [(8, 2, 4, 10), (5, 4, 10, 71), (0, 6, 1, 0), (3, 6, 2, 1)]

    def assert_parted(self, tuples, share, whole, asked):
        handed = row(*tuples)
        kept = list(handed)
        with self.subTest(tuples=tuples, share=share, whole=whole):
            made = row_parted(handed, share, whole)
            self.assertIsInstance(made, tuple)
            self.assertEqual([type(part) for part in made], [list, list])
            self.assertEqual((told(made[0]), told(made[1])), asked)
            made[0].clear()
            self.assertEqual(told(made[1]), asked[1])
            made[1].clear()
            self.assertEqual([id(lot) for lot in handed], [id(lot) for lot in kept])
            self.assertEqual(told(handed), tuples)

    def test_a_share_of_each_cost_rounded_down(self):
        self.assert_parted(
            self.TUPLES, 1, 4,
            (
                [(8, 2, 4, 8), (5, 4, 10, 54), (0, 6, 1, 0), (3, 6, 2, 1)],
                [(8, 2, 4, 2), (5, 4, 10, 17), (0, 6, 1, 0), (3, 6, 2, 0)],
            ),
        )

    def test_share_0_and_share_all(self):
        free = [lot[:3] + (0,) for lot in self.TUPLES]
        for whole in (1, 7, 10 ** 6):
            self.assert_parted(self.TUPLES, 0, whole, (self.TUPLES, free))
            self.assert_parted(self.TUPLES, whole, whole, (free, self.TUPLES))

    def test_no_lots_at_all(self):
        self.assert_parted([], 1, 2, ([], []))

    def test_great_ones_are_exact(self):
        cost = 10 ** 90 + 1
        part = cost * 999999 // 10 ** 6
        self.assert_parted([(1, 1, 1, cost)], 999999, 10 ** 6, ([(1, 1, 1, cost - part)], [(1, 1, 1, part)]))

    def test_costs_come_to_the_unit(self):
        for tuples in some_rows():
            for whole in range(1, 8):
                for share in range(whole + 1):
                    on, second = row_parted(row(*tuples), share, whole)
                    for lot, one, other in itertools.zip_longest(tuples, told(on), told(second)):
                        self.assertEqual(one[:3], lot[:3])
                        self.assertEqual(other, lot[:3] + (lot[3] * share // whole,))
                        self.assertEqual(one[3] + other[3], lot[3])


if __name__ == "__main__":
    unittest.main()
