"""Points 4 and 5: a part of an amount, and an amount dealt by weights."""

import itertools
import unittest

from lotledger.errors import NoWeights
from lotledger.shares import dealt, part_of

AMOUNTS = (-1000, -101, -7, -1, 0, 1, 2, 7, 100, 999)


def is_whole(value):
    return isinstance(value, int) and not isinstance(value, bool)


class PartOf(unittest.TestCase):
    def test_ordinary_parts(self):
        self.assertEqual(part_of(100, 1, 4), 25)
        self.assertEqual(part_of(100, 1, 3), 33)
        self.assertEqual(part_of(100, 2, 3), 66)

    def test_below_0_is_rounded_down(self):
        self.assertEqual(part_of(-100, 1, 3), -34)
        self.assertEqual(part_of(-1, 1, 1000), -1)

    def test_an_amount_of_0(self):
        self.assertEqual(part_of(0, 3, 7), 0)

    def test_part_0_and_part_all(self):
        for amount in AMOUNTS:
            for whole in (1, 2, 7, 1000):
                with self.subTest(amount=amount, whole=whole):
                    self.assertEqual(part_of(amount, 0, whole), 0)
                    self.assertEqual(part_of(amount, whole, whole), amount)

    def test_it_is_the_greatest_whole_number_that_is_not_too_much(self):
        for amount in AMOUNTS:
            for whole in range(1, 9):
                for part in range(whole + 1):
                    with self.subTest(amount=amount, part=part, whole=whole):
                        share = part_of(amount, part, whole)
                        self.assertTrue(is_whole(share))
                        self.assertLessEqual(share * whole, amount * part)
                        self.assertGreater((share + 1) * whole, amount * part)

    def test_great_numbers_are_exact(self):
        self.assertEqual(part_of(10 ** 100 + 1, 10 ** 50, 10 ** 50 + 1), 10 ** 100 - 10 ** 50 + 1)
        self.assertEqual(part_of(-(10 ** 90), 1, 3), -int("3" * 89 + "4"))
        self.assertEqual(part_of(10 ** 18 + 1, 10 ** 17, 10 ** 17), 10 ** 18 + 1)


class Dealt(unittest.TestCase):
    def test_ordinary_shares(self):
        self.assertEqual(dealt(100, [1, 1, 1]), [33, 33, 34])
        self.assertEqual(dealt(10, [3, 5, 2]), [3, 5, 2])
        self.assertEqual(dealt(7, [1]), [7])
        self.assertEqual(dealt(2, [1, 1, 1, 1]), [0, 1, 0, 1])

    def test_an_amount_below_0(self):
        self.assertEqual(dealt(-100, [1, 1, 1]), [-34, -33, -33])
        self.assertEqual(dealt(-1, [1, 1]), [-1, 0])

    def test_an_amount_of_0(self):
        self.assertEqual(dealt(0, [4, 0, 2]), [0, 0, 0])

    def test_the_first_so_many_have_their_part(self):
        for amount in AMOUNTS:
            for weights in itertools.product((0, 1, 2, 5), repeat=4):
                if sum(weights) == 0:
                    continue
                with self.subTest(amount=amount, weights=weights):
                    shares = dealt(amount, list(weights))
                    self.assertEqual(len(shares), len(weights))
                    for many in range(len(weights) + 1):
                        part = amount * sum(weights[:many]) // sum(weights)
                        self.assertEqual(sum(shares[:many]), part)

    def test_shares_come_to_the_amount_and_a_weight_of_0_has_0(self):
        for amount in AMOUNTS + (10 ** 120 + 7, -(10 ** 120) - 7):
            for weights in ([0, 3, 0, 0, 4, 0], [0, 1], [1, 0], [10 ** 60, 0, 1, 10 ** 59]):
                with self.subTest(amount=amount, weights=weights):
                    shares = dealt(amount, weights)
                    self.assertEqual(sum(shares), amount)
                    self.assertTrue(all(is_whole(share) for share in shares))
                    self.assertEqual([s for s, w in zip(shares, weights) if w == 0], [0] * weights.count(0))

    def test_great_numbers_are_exact(self):
        self.assertEqual(dealt(10 ** 60 + 1, [10 ** 60, 1]), [10 ** 60, 1])

    def test_refused_without_a_weight_above_0(self):
        for weights in ([], [0], [0, 0, 0]):
            for amount in (-5, 0, 5):
                with self.subTest(amount=amount, weights=weights), self.assertRaises(NoWeights):
                    dealt(amount, weights)

    def test_refused_with_a_weight_below_0_at_any_place(self):
        for place in range(4):
            for below in (-1, -3, -100):
                weights = [1, 2, 0, 5]
                weights[place] = below
                with self.subTest(weights=weights), self.assertRaises(NoWeights):
                    dealt(10, weights)
        for weights in ([-1], [-1, -1], [-1, 1], [1, -1]):
            with self.subTest(weights=weights), self.assertRaises(NoWeights):
                dealt(0, weights)

    def test_the_weights_stay(self):
        weights = [3, 0, 4]
        dealt(10, weights)
        self.assertEqual(weights, [3, 0, 4])
        for refused in ([0, 0], [3, -1, 2]):
            kept = list(refused)
            with self.assertRaises(NoWeights):
                dealt(10, refused)
            self.assertEqual(refused, kept)

    def test_a_told_list_is_the_askers_own(self):
        weights = [1, 1]
        first = dealt(10, weights)
        first.append(99)
        first[0] = 77
        second = dealt(10, weights)
        self.assertEqual(second, [5, 5])
        self.assertEqual(weights, [1, 1])
        weights[0] = 9
        dealt(20, weights)
        self.assertEqual(second, [5, 5])


if __name__ == "__main__":
    unittest.main()
