"""Points 10, 11 and 12: lots, and rows of them."""

import fractions
import inspect
import itertools
import unittest

from lotledger import lots as module
from lotledger.errors import LotError, NoLot
from lotledger.lots import Lot, cost_in, pieces_in, row_with, row_without
from helper import row, told


class Interface(unittest.TestCase):
    def test_arguments(self):
        asked = (
            (Lot, "(number, since, pieces, cost)"),
            (Lot.told, "(self)"),
            (Lot.taken, "(self, pieces)"),
            (Lot.with_more, "(self, pieces, cost)"),
            (Lot.is_dearer, "(self, other)"),
            (row_with, "(lots, lot)"),
            (row_without, "(lots, picks)"),
            (pieces_in, "(lots)"),
            (cost_in, "(lots)"),
        )
        for function, arguments in asked:
            with self.subTest(function.__name__):
                self.assertEqual(str(inspect.signature(function)), arguments)

    def test_the_module_defines_them(self):
        for function in (Lot, row_with, row_without, pieces_in, cost_in):
            self.assertEqual(function.__module__, module.__name__)


class Lots(unittest.TestCase):
    def test_fields_and_told(self):
        lot = Lot(7, 3, 10, 25)
        self.assertEqual((lot.number, lot.since, lot.pieces, lot.cost), (7, 3, 10, 25))
        self.assertEqual(lot.told(), (7, 3, 10, 25))
        self.assertIsInstance(lot.told(), tuple)

    def test_least_and_great(self):
        for values in ((0, 0, 1, 0), (10 ** 6, 10 ** 6, 10 ** 200, 10 ** 250)):
            self.assertEqual(Lot(*values).told(), values)

    def assert_taken(self, lot, pieces, gone, left):
        before = lot.told()
        pair = lot.taken(pieces)
        self.assertIsInstance(pair, tuple)
        self.assertEqual(len(pair), 2)
        self.assertEqual(pair[0].told(), gone)
        if left is None:
            self.assertIsNone(pair[1])
        else:
            self.assertEqual(pair[1].told(), left)
        self.assertEqual(lot.told(), before)

    def test_one_piece_is_taken(self):
        self.assert_taken(Lot(7, 3, 4, 10), 1, (7, 3, 1, 2), (7, 3, 3, 8))

    def test_some_are_taken(self):
        self.assert_taken(Lot(7, 3, 4, 10), 2, (7, 3, 2, 5), (7, 3, 2, 5))
        self.assert_taken(Lot(7, 3, 7, 100), 3, (7, 3, 3, 42), (7, 3, 4, 58))

    def test_all_but_one_are_taken(self):
        self.assert_taken(Lot(7, 3, 4, 10), 3, (7, 3, 3, 7), (7, 3, 1, 3))

    def test_all_are_taken(self):
        self.assert_taken(Lot(7, 3, 4, 10), 4, (7, 3, 4, 10), None)
        self.assert_taken(Lot(7, 3, 1, 10), 1, (7, 3, 1, 10), None)

    def test_a_cost_of_0_and_one_below_the_pieces(self):
        self.assert_taken(Lot(0, 0, 4, 0), 3, (0, 0, 3, 0), (0, 0, 1, 0))
        self.assert_taken(Lot(0, 0, 4, 1), 3, (0, 0, 3, 0), (0, 0, 1, 1))

    def test_the_taken_cost_is_rounded_down_and_the_rest_stays(self):
        for pieces, cost in itertools.product(range(1, 8), range(0, 20)):
            for many in range(1, pieces + 1):
                gone, left = Lot(1, 2, pieces, cost).taken(many)
                self.assertEqual(gone.cost, cost * many // pieces)
                self.assertEqual(gone.cost + (left.cost if left else 0), cost)
                self.assertEqual(gone.pieces + (left.pieces if left else 0), pieces)

    def test_great_ones_are_exact(self):
        lot = Lot(1, 2, 10 ** 90 + 1, 10 ** 120 + 7)
        cost = (10 ** 120 + 7) * 10 ** 90 // (10 ** 90 + 1)
        self.assert_taken(lot, 10 ** 90, (1, 2, 10 ** 90, cost), (1, 2, 1, 10 ** 120 + 7 - cost))

    def test_with_more(self):
        lot = Lot(7, 3, 4, 10)
        self.assertEqual(lot.with_more(5, 6).told(), (7, 3, 9, 16))
        self.assertEqual(lot.with_more(0, 6).told(), (7, 3, 4, 16))
        self.assertEqual(lot.with_more(5, 0).told(), (7, 3, 9, 10))
        self.assertEqual(lot.told(), (7, 3, 4, 10))


class IsDearer(unittest.TestCase):
    def test_by_cost_for_each_piece(self):
        self.assertIs(Lot(1, 1, 2, 10).is_dearer(Lot(2, 2, 3, 14)), True)
        self.assertIs(Lot(2, 2, 3, 14).is_dearer(Lot(1, 1, 2, 10)), False)

    def test_neither_the_cost_nor_the_whole_part_alone_decides(self):
        few, many = Lot(1, 1, 2, 11), Lot(2, 2, 10, 54)
        self.assertIs(few.is_dearer(many), True)
        self.assertIs(many.is_dearer(few), False)

    def test_alike_ones_and_itself(self):
        lot = Lot(1, 1, 3, 7)
        for other in (lot, Lot(1, 1, 3, 7), Lot(9, 0, 6, 14), Lot(0, 9, 300, 700)):
            self.assertIs(lot.is_dearer(other), False)
            self.assertIs(other.is_dearer(lot), False)

    def test_costs_of_0(self):
        self.assertIs(Lot(1, 1, 1, 0).is_dearer(Lot(2, 2, 9, 0)), False)
        self.assertIs(Lot(1, 1, 1, 0).is_dearer(Lot(2, 2, 10 ** 9, 1)), False)
        self.assertIs(Lot(2, 2, 10 ** 9, 1).is_dearer(Lot(1, 1, 1, 0)), True)

    def test_great_ones_that_differ_by_the_least(self):
        for great in (10 ** 18, 10 ** 90):
            # Of neighbours of this form the products differ by one alone.
            dear, cheap = Lot(1, 1, great, great + 1), Lot(2, 2, great + 1, great + 2)
            self.assertIs(dear.is_dearer(cheap), True)
            self.assertIs(cheap.is_dearer(dear), False)
            alike = Lot(3, 3, great * 3, (great + 1) * 3)
            self.assertIs(dear.is_dearer(alike), False)
            self.assertIs(alike.is_dearer(dear), False)

    def test_as_exact_fractions(self):
        pairs = list(itertools.product(range(1, 6), range(0, 9)))
        for (pieces, cost), (others, other_cost) in itertools.product(pairs, pairs):
            asked = fractions.Fraction(cost, pieces) > fractions.Fraction(other_cost, others)
            self.assertIs(Lot(1, 1, pieces, cost).is_dearer(Lot(2, 1, others, other_cost)), asked)


class RowWith(unittest.TestCase):
    def assert_with(self, tuples, lot, asked):
        handed = row(*tuples)
        kept = list(handed)
        put = Lot(*lot)
        made = row_with(handed, put)
        self.assertIsInstance(made, list)
        self.assertEqual(told(made), asked)
        self.assertEqual([id(one) for one in handed], [id(one) for one in kept])
        self.assertEqual(told(handed), list(tuples))
        self.assertEqual(put.told(), lot)
        made.clear()
        self.assertEqual(told(handed), list(tuples))

    def test_in_a_row_without_lots(self):
        self.assert_with([], (4, 2, 3, 9), [(4, 2, 3, 9)])

    def test_at_its_place_by_since(self):
        tuples = [(8, 2, 1, 1), (5, 4, 1, 1), (7, 6, 1, 1)]
        for since, place in ((1, 0), (3, 1), (5, 2), (7, 3)):
            lot = (6, since, 3, 9)
            self.assert_with(tuples, lot, tuples[:place] + [lot] + tuples[place:])

    def test_on_one_since_by_number(self):
        tuples = [(2, 4, 1, 1), (10, 4, 1, 1), (30, 4, 1, 1)]
        for number, place in ((0, 0), (3, 1), (11, 2), (31, 3), (100, 3)):
            lot = (number, 4, 3, 9)
            self.assert_with(tuples, lot, tuples[:place] + [lot] + tuples[place:])

    def test_since_goes_ahead_of_number(self):
        self.assert_with([(1, 9, 1, 1)], (2, 8, 1, 1), [(2, 8, 1, 1), (1, 9, 1, 1)])
        self.assert_with([(9, 1, 1, 1)], (1, 2, 1, 1), [(9, 1, 1, 1), (1, 2, 1, 1)])

    def test_added_to_the_one_of_its_number(self):
        tuples = [(8, 2, 1, 1), (5, 4, 10, 70), (0, 6, 1, 1)]
        self.assert_with(tuples, (5, 4, 3, 9), [(8, 2, 1, 1), (5, 4, 13, 79), (0, 6, 1, 1)])
        self.assert_with(tuples, (8, 2, 3, 0), [(8, 2, 4, 1), (5, 4, 10, 70), (0, 6, 1, 1)])
        self.assert_with(tuples, (0, 6, 1, 5), [(8, 2, 1, 1), (5, 4, 10, 70), (0, 6, 2, 6)])

    def test_put_in_any_order_it_is_the_same_row(self):
        tuples = [(3, 1, 2, 5), (9, 1, 1, 1), (0, 2, 4, 4), (2, 2, 1, 0), (1, 5, 7, 7)]
        for mixed in itertools.permutations(tuples):
            made = []
            for lot in mixed:
                made = row_with(made, Lot(*lot))
            self.assertEqual(told(made), tuples)

    def test_what_is_done_to_the_row_later_changes_nothing_told(self):
        handed = row((1, 1, 1, 1))
        made = row_with(handed, Lot(2, 2, 2, 2))
        again = row_with(handed, Lot(1, 1, 2, 2))
        handed.clear()
        self.assertEqual(told(made), [(1, 1, 1, 1), (2, 2, 2, 2)])
        self.assertEqual(told(again), [(1, 1, 3, 3)])


class RowWithout(unittest.TestCase):
    TUPLES = [(8, 2, 4, 10), (5, 4, 10, 70), (0, 6, 1, 3)]

    def assert_without(self, picks, taken, left, tuples=None):
        tuples = self.TUPLES if tuples is None else tuples
        handed, kept_picks = row(*tuples), list(picks)
        kept = list(handed)
        made = row_without(handed, picks)
        self.assertIsInstance(made, tuple)
        self.assertEqual([type(part) for part in made], [list, list])
        self.assertEqual((told(made[0]), told(made[1])), (taken, left))
        made[0].clear()
        made[1].clear()
        self.assertEqual([id(lot) for lot in handed], [id(lot) for lot in kept])
        self.assertEqual(told(handed), tuples)
        self.assertEqual(picks, kept_picks)

    def test_some_of_one_lot(self):
        self.assert_without([(5, 3)], [(5, 4, 3, 21)], [(8, 2, 4, 10), (5, 4, 7, 49), (0, 6, 1, 3)])
        self.assert_without([(8, 1)], [(8, 2, 1, 2)], [(8, 2, 3, 8), (5, 4, 10, 70), (0, 6, 1, 3)])

    def test_a_lot_of_which_nothing_is_left_is_gone(self):
        self.assert_without([(8, 4)], [(8, 2, 4, 10)], [(5, 4, 10, 70), (0, 6, 1, 3)])
        self.assert_without([(0, 1)], [(0, 6, 1, 3)], [(8, 2, 4, 10), (5, 4, 10, 70)])

    def test_pick_by_pick_in_the_picks_order(self):
        self.assert_without(
            [(0, 1), (8, 3), (5, 1)],
            [(0, 6, 1, 3), (8, 2, 3, 7), (5, 4, 1, 7)],
            [(8, 2, 1, 3), (5, 4, 9, 63)],
        )

    def test_all_lots_go(self):
        self.assert_without([(5, 10), (0, 1), (8, 4)], [(5, 4, 10, 70), (0, 6, 1, 3), (8, 2, 4, 10)], [])

    def test_no_picks_at_all(self):
        self.assert_without([], [], self.TUPLES)
        self.assert_without([], [], [], [])

    def assert_refused(self, picks, number, tuples=None):
        tuples = self.TUPLES if tuples is None else tuples
        handed, kept_picks = row(*tuples), list(picks)
        kept = list(handed)
        with self.subTest(picks=picks):
            with self.assertRaises(NoLot) as refused:
                row_without(handed, picks)
            self.assertIsInstance(refused.exception, LotError)
            self.assertEqual(refused.exception.number, number)
            self.assertEqual([id(lot) for lot in handed], [id(lot) for lot in kept])
            self.assertEqual(told(handed), tuples)
            self.assertEqual(picks, kept_picks)

    def test_a_number_that_the_row_lacks(self):
        self.assert_refused([(7, 1)], 7)
        self.assert_refused([(8, 4), (7, 1)], 7)
        self.assert_refused([(7, 1), (8, 4)], 7)
        self.assert_refused([(0, 1)], 0, [])

    def test_a_lot_with_too_few_pieces(self):
        self.assert_refused([(8, 5)], 8)
        self.assert_refused([(0, 2)], 0)
        self.assert_refused([(5, 10), (8, 4), (0, 2)], 0)

    def test_of_several_the_first_pick(self):
        self.assert_refused([(5, 1), (8, 5), (7, 1), (0, 2)], 8)
        self.assert_refused([(5, 1), (7, 1), (8, 5), (0, 2)], 7)
        self.assert_refused([(9, 1), (3, 1)], 9)
        self.assert_refused([(3, 1), (9, 1)], 3)


class Sums(unittest.TestCase):
    def test_of_lots(self):
        lots = row((8, 2, 4, 10), (5, 4, 10, 70), (0, 6, 1, 0))
        self.assertEqual(pieces_in(lots), 15)
        self.assertEqual(cost_in(lots), 80)
        self.assertEqual(told(lots), [(8, 2, 4, 10), (5, 4, 10, 70), (0, 6, 1, 0)])

    def test_of_no_lots(self):
        self.assertEqual(pieces_in([]), 0)
        self.assertEqual(cost_in([]), 0)

    def test_of_great_ones(self):
        lots = row((1, 1, 10 ** 200, 10 ** 250), (2, 1, 1, 1))
        self.assertEqual(pieces_in(lots), 10 ** 200 + 1)
        self.assertEqual(cost_in(lots), 10 ** 250 + 1)


if __name__ == "__main__":
    unittest.main()
