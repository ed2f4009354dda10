"""Points 8 and 9: the order of a history, and what is held."""

import itertools
import unittest

from lotledger.entries import Buy, Gift, Give, Parting, Sell, Split
from lotledger.errors import NotHeld, Twice
from lotledger.held import held_after, in_order


class HeldBehind(unittest.TestCase):
    def assert_behind(self, entry, held, asked):
        with self.subTest(entry.told(), held=held):
            handed = dict(held)
            told = entry.held_behind(handed)
            self.assertEqual(told, asked)
            self.assertEqual(handed, held)
            self.assertIsNot(told, handed)
            if told is not None:
                told["added"] = 1
                self.assertEqual(handed, held)
                self.assertEqual(entry.held_behind(handed), asked)

    def test_buy_and_gift_add(self):
        for entry in (Buy(1, 1, "tin", 5, 2), Gift(1, 1, "tin", 5, 2, 0)):
            self.assert_behind(entry, {}, {"tin": 5})
            self.assert_behind(entry, {"tin": 3}, {"tin": 8})
            self.assert_behind(entry, {"zinc": 3}, {"zinc": 3, "tin": 5})
            self.assert_behind(entry, {"zinc": 3, "tin": 1}, {"zinc": 3, "tin": 6})

    def test_sell_and_give_take(self):
        for entry in (Sell(1, 1, "tin", 5, 2), Give(1, 1, "tin", 5)):
            self.assert_behind(entry, {"tin": 7}, {"tin": 2})
            self.assert_behind(entry, {"tin": 6, "zinc": 9}, {"tin": 1, "zinc": 9})

    def test_a_ware_of_which_all_is_taken_is_gone(self):
        for entry in (Sell(1, 1, "tin", 5, 2), Give(1, 1, "tin", 5)):
            self.assert_behind(entry, {"tin": 5}, {})
            self.assert_behind(entry, {"tin": 5, "zinc": 9}, {"zinc": 9})

    def test_sell_and_give_of_too_few_cant_be_done(self):
        for entry in (Sell(1, 1, "tin", 5, 2), Give(1, 1, "tin", 5)):
            for held in ({}, {"tin": 4}, {"tin": 1}, {"zinc": 9}, {"tin": 4, "zinc": 9}):
                self.assert_behind(entry, held, None)

    def test_named_lots_change_nothing_here(self):
        for entry in (Sell(1, 1, "tin", 5, 2, 0, [(8, 5)]), Give(1, 1, "tin", 5, [(8, 2), (9, 3)])):
            self.assert_behind(entry, {"tin": 7}, {"tin": 2})
            self.assert_behind(entry, {"tin": 4}, None)

    def test_split(self):
        self.assert_behind(Split(1, 1, "tin", 2, 1), {"tin": 7}, {"tin": 14})
        self.assert_behind(Split(1, 1, "tin", 1, 2), {"tin": 7}, {"tin": 3})
        self.assert_behind(Split(1, 1, "tin", 2, 3), {"tin": 7, "zinc": 1}, {"tin": 4, "zinc": 1})
        self.assert_behind(Split(1, 1, "tin", 5, 5), {"tin": 7}, {"tin": 7})
        self.assert_behind(Split(1, 1, "tin", 1, 1000), {"tin": 1999}, {"tin": 1})
        self.assert_behind(Split(1, 1, "tin", 1000, 1), {"tin": 10 ** 40}, {"tin": 10 ** 43})

    def test_split_that_leaves_none_of_some_cant_be_done(self):
        self.assert_behind(Split(1, 1, "tin", 1, 2), {"tin": 1}, None)
        self.assert_behind(Split(1, 1, "tin", 1, 1000), {"tin": 999}, None)
        self.assert_behind(Split(1, 1, "tin", 1, 1000), {"tin": 1000}, {"tin": 1})
        self.assert_behind(Split(1, 1, "tin", 1, 3), {"tin": 2, "zinc": 5}, None)

    def test_split_of_a_ware_that_isnt_held_does_nothing(self):
        for split in (Split(1, 1, "tin", 2, 1), Split(1, 1, "tin", 1, 1000)):
            self.assert_behind(split, {}, {})
            self.assert_behind(split, {"zinc": 5}, {"zinc": 5})

    def test_parting(self):
        parting = Parting(1, 1, "tin", "ore", 1, 2)
        self.assert_behind(parting, {"tin": 4}, {"tin": 4, "ore": 4})
        self.assert_behind(parting, {"tin": 4, "ore": 3}, {"tin": 4, "ore": 7})
        self.assert_behind(parting, {"tin": 4, "zinc": 3}, {"tin": 4, "zinc": 3, "ore": 4})

    def test_the_share_changes_no_pieces(self):
        for share in (0, 1, 4):
            self.assert_behind(Parting(1, 1, "tin", "ore", share, 4), {"tin": 6}, {"tin": 6, "ore": 6})

    def test_parting_of_a_ware_that_isnt_held_does_nothing(self):
        parting = Parting(1, 1, "tin", "ore", 1, 2)
        self.assert_behind(parting, {}, {})
        self.assert_behind(parting, {"ore": 3}, {"ore": 3})
        self.assert_behind(parting, {"zinc": 3}, {"zinc": 3})


class InOrder(unittest.TestCase):
    def history(self):
        return [
            Buy(0, 10 ** 6, "a", 1, 1),
            Buy(2, 3, "a", 1, 1),
            Give(2, 10, "a", 1),
            Split(2, 20, "a", 2, 1),
            Sell(11, 0, "a", 1, 1),
            Gift(100, 7, "a", 1, 1, 50),
        ]

    def assert_same_entries(self, told, asked):
        self.assertEqual([id(entry) for entry in told], [id(entry) for entry in asked])

    def test_by_day_and_on_one_day_by_number_whatever_the_lists_order(self):
        history = self.history()
        for mixed in itertools.permutations(history):
            self.assert_same_entries(in_order(list(mixed)), history)

    def test_no_entries(self):
        self.assertEqual(in_order([]), [])

    def test_sixty_entries(self):
        history = [Buy(number // 7, number, "a", 1, 1) for number in range(60)]
        mixed = [history[place * 37 % 60] for place in range(60)]
        self.assert_same_entries(in_order(mixed), history)

    def test_the_list_handed_in_stays_and_the_told_one_is_new(self):
        history = self.history()
        handed = history[::-1]
        told = in_order(handed)
        self.assert_same_entries(handed, history[::-1])
        told.clear()
        self.assert_same_entries(handed, history[::-1])
        sorted_one = list(history)
        told = in_order(sorted_one)
        told.pop()
        self.assert_same_entries(sorted_one, history)
        self.assert_same_entries(in_order(sorted_one), history)

    def test_what_is_done_to_the_list_later_changes_nothing_told(self):
        history = self.history()
        told = in_order(history)
        kept = list(told)
        history.clear()
        self.assert_same_entries(told, kept)


class RefusedTwice(unittest.TestCase):
    """in_order and held_after refuse alike."""

    def assert_twice(self, entries, number):
        for function in (in_order, held_after):
            for mixed in itertools.permutations(entries):
                handed = list(mixed)
                with self.assertRaises(Twice) as refused:
                    function(handed)
                self.assertEqual(refused.exception.number, number)
                self.assertEqual([id(entry) for entry in handed], [id(entry) for entry in mixed])

    def test_one_number_twice(self):
        self.assert_twice([Buy(1, 4, "a", 1, 1), Buy(2, 4, "a", 1, 1)], 4)
        self.assert_twice([Buy(1, 0, "a", 1, 1), Split(1, 0, "b", 1, 1), Buy(1, 1, "a", 1, 1)], 0)

    def test_one_number_three_times(self):
        self.assert_twice([Buy(day, 9, "a", 1, 1) for day in range(3)], 9)

    def test_the_very_entry_twice(self):
        entry = Buy(1, 4, "a", 1, 1)
        self.assert_twice([entry, entry], 4)

    def test_of_several_the_least(self):
        # The least stands on the latest days, so neither the order nor the list's leads to it.
        entries = [Buy(1, 8, "a", 1, 1), Buy(1, 2, "a", 1, 1), Buy(2, 8, "a", 1, 1)]
        entries.extend([Buy(7, 5, "a", 1, 1), Buy(9, 5, "a", 1, 1)])
        self.assert_twice(entries, 5)

    def test_twice_goes_ahead_of_not_held(self):
        self.assert_twice([Sell(0, 1, "a", 5, 1), Buy(3, 6, "a", 1, 1), Buy(4, 6, "a", 1, 1)], 6)
        self.assert_twice([Give(0, 6, "a", 5), Give(4, 6, "a", 1)], 6)


class HeldAfter(unittest.TestCase):
    def assert_after(self, entries, asked):
        for mixed in itertools.permutations(entries):
            handed = list(mixed)
            self.assertEqual(held_after(handed), asked)
            self.assertEqual([id(entry) for entry in handed], [id(entry) for entry in mixed])

    def assert_not_held(self, entries, number):
        for mixed in itertools.permutations(entries):
            handed = list(mixed)
            with self.assertRaises(NotHeld) as refused:
                held_after(handed)
            self.assertEqual(refused.exception.number, number)
            self.assertEqual([id(entry) for entry in handed], [id(entry) for entry in mixed])

    def test_no_entries(self):
        self.assertEqual(held_after([]), {})

    def test_a_told_dict_is_the_askers_own(self):
        told = held_after([])
        told["a"] = 1
        self.assertEqual(held_after([]), {})
        entries = [Buy(1, 1, "tin", 5, 2)]
        held_after(entries)["tin"] = 99
        self.assertEqual(held_after(entries), {"tin": 5})

    def test_histories_told_in_any_order(self):
        self.assert_after([Buy(1, 9, "tin", 5, 2), Sell(2, 1, "tin", 2, 9), Gift(2, 2, "tin", 1, 0, 0)], {"tin": 4})
        self.assert_after([Buy(1, 1, "tin", 5, 2), Give(1, 2, "tin", 5)], {})
        self.assert_after(
            [
                Buy(1, 1, "tin", 7, 2),
                Split(2, 2, "tin", 1, 2),
                Parting(3, 3, "tin", "ore", 1, 3),
                Sell(4, 4, "tin", 3, 2),
                Buy(5, 5, "ore", 1, 2),
            ],
            {"ore": 4},
        )

    def test_on_one_day_the_number_decides(self):
        self.assert_after([Buy(1, 1, "a", 3, 1), Split(1, 2, "a", 1, 2), Buy(1, 3, "a", 3, 1)], {"a": 4})
        self.assert_after([Buy(1, 1, "a", 3, 1), Buy(1, 2, "a", 3, 1), Split(1, 3, "a", 1, 2)], {"a": 3})
        self.assert_not_held([Sell(1, 1, "a", 3, 1), Buy(1, 2, "a", 3, 1)], 1)

    def test_wares_that_arent_held_are_split_and_parted_for_nothing(self):
        self.assert_after([Split(1, 1, "a", 1, 9), Parting(2, 2, "a", "b", 1, 2), Buy(3, 3, "c", 1, 1)], {"c": 1})
        self.assert_after([Buy(1, 1, "a", 1, 1), Give(2, 2, "a", 1), Split(3, 3, "a", 1, 2)], {})

    def test_parted_pieces_can_be_sold(self):
        self.assert_after([Gift(1, 1, "a", 4, 8, 0), Parting(2, 2, "a", "b", 4, 4), Give(3, 3, "b", 4)], {"a": 4})

    def test_too_few_pieces(self):
        self.assert_not_held([Sell(1, 7, "a", 1, 1)], 7)
        self.assert_not_held([Give(1, 7, "a", 1)], 7)
        self.assert_not_held([Buy(1, 1, "a", 4, 1), Sell(2, 2, "a", 5, 1)], 2)
        self.assert_not_held([Buy(1, 1, "a", 4, 1), Give(2, 2, "b", 1)], 2)
        self.assert_not_held([Sell(1, 2, "a", 4, 1), Buy(2, 1, "a", 4, 1)], 2)

    def test_a_split_that_leaves_none(self):
        self.assert_not_held([Buy(1, 1, "a", 1, 1), Split(2, 2, "a", 1, 2)], 2)

    def test_of_several_the_first_in_order(self):
        # Neither the least number nor the greatest is that of the first one.
        entries = [Buy(1, 3, "a", 2, 1), Give(2, 5, "a", 3), Sell(3, 1, "a", 9, 1), Split(4, 9, "a", 1, 9)]
        self.assert_not_held(entries, 5)

    def test_a_later_buy_mends_nothing(self):
        self.assert_not_held([Buy(1, 1, "a", 1, 1), Sell(2, 2, "a", 2, 1), Buy(3, 3, "a", 9, 1)], 2)

    def test_great_numbers_are_exact(self):
        entries = [Buy(0, 0, "a", 10 ** 9, 0)]
        entries.extend([Split(1, number, "a", 1000, 1) for number in range(1, 59)])
        entries.append(Give(2, 59, "a", 1))
        self.assertEqual(held_after(entries[::-1]), {"a": 10 ** (9 + 3 * 58) - 1})


if __name__ == "__main__":
    unittest.main()
