"""Points 6 and 7: the six kinds of entries, as they are made and told."""

import inspect
import unittest

from lotledger.entries import Buy, Entry, Gift, Give, Parting, Sell, Split

KINDS = (Buy, Sell, Gift, Give, Split, Parting)


class Kinds(unittest.TestCase):
    def test_each_stands_under_entry_and_none_under_another_one(self):
        for kind in KINDS:
            self.assertTrue(issubclass(kind, Entry))
            self.assertEqual([other for other in KINDS if issubclass(kind, other)], [kind])

    def test_arguments_and_defaults(self):
        asked = (
            (Entry, "(day, number, ware)"),
            (Buy, "(day, number, ware, pieces, price, fee=0)"),
            (Sell, "(day, number, ware, pieces, price, fee=0, named=None)"),
            (Gift, "(day, number, ware, pieces, cost, since)"),
            (Give, "(day, number, ware, pieces, named=None)"),
            (Split, "(day, number, ware, many, of)"),
            (Parting, "(day, number, ware, other, share, whole)"),
        )
        for kind, arguments in asked:
            with self.subTest(kind.__name__):
                self.assertEqual(str(inspect.signature(kind)), arguments)

    def assert_fields(self, entry, **fields):
        self.assertEqual({name: getattr(entry, name) for name in fields}, fields)

    def test_buy(self):
        entry = Buy(3, 14, "tin", 10, 25, 7)
        self.assert_fields(entry, day=3, number=14, ware="tin", pieces=10, price=25, fee=7, cost=257)
        self.assertEqual(entry.word(), "buy")
        self.assertEqual(entry.told(), ("buy", 3, 14, "tin", 10, 25, 7))

    def test_buy_without_fee(self):
        entry = Buy(3, 14, "tin", 10, 25)
        self.assert_fields(entry, fee=0, cost=250)
        self.assertEqual(entry.told(), ("buy", 3, 14, "tin", 10, 25, 0))

    def test_sell(self):
        entry = Sell(3, 14, "tin", 10, 25, 7)
        self.assert_fields(
            entry, day=3, number=14, ware="tin", pieces=10, price=25, fee=7, named=None, proceeds=243
        )
        self.assertEqual(entry.word(), "sell")
        self.assertEqual(entry.told(), ("sell", 3, 14, "tin", 10, 25, 7, None))

    def test_sell_without_fee(self):
        entry = Sell(3, 14, "tin", 10, 25)
        self.assert_fields(entry, fee=0, named=None, proceeds=250)
        self.assertEqual(entry.told(), ("sell", 3, 14, "tin", 10, 25, 0, None))

    def test_sell_with_proceeds_of_0_and_below(self):
        self.assertEqual(Sell(0, 0, "a", 2, 5, 10).proceeds, 0)
        self.assertEqual(Sell(0, 0, "a", 2, 5, 11).proceeds, -1)
        self.assertEqual(Sell(0, 0, "a", 1, 0, 10 ** 9).proceeds, -(10 ** 9))

    def test_sell_of_named_lots(self):
        entry = Sell(3, 14, "tin", 10, 25, 7, [(9, 4), (2, 6)])
        self.assertEqual(entry.named, [(9, 4), (2, 6)])
        self.assertIsInstance(entry.named, list)
        self.assertEqual(entry.told(), ("sell", 3, 14, "tin", 10, 25, 7, ((9, 4), (2, 6))))

    def test_sell_of_named_lots_without_fee(self):
        entry = Sell(3, 14, "tin", 10, 25, named=[(9, 10)])
        self.assert_fields(entry, fee=0, named=[(9, 10)], proceeds=250)

    def test_gift(self):
        entry = Gift(8, 5, "iron", 4, 90, 2)
        self.assert_fields(entry, day=8, number=5, ware="iron", pieces=4, cost=90, since=2)
        self.assertEqual(entry.word(), "gift")
        self.assertEqual(entry.told(), ("gift", 8, 5, "iron", 4, 90, 2))

    def test_give(self):
        entry = Give(8, 5, "iron", 4)
        self.assert_fields(entry, day=8, number=5, ware="iron", pieces=4, named=None)
        self.assertEqual(entry.word(), "give")
        self.assertEqual(entry.told(), ("give", 8, 5, "iron", 4, None))

    def test_give_of_named_lots(self):
        entry = Give(8, 5, "iron", 4, [(3, 1), (1, 3)])
        self.assertEqual(entry.named, [(3, 1), (1, 3)])
        self.assertIsInstance(entry.named, list)
        self.assertEqual(entry.told(), ("give", 8, 5, "iron", 4, ((3, 1), (1, 3))))

    def test_split(self):
        entry = Split(8, 5, "iron", 3, 2)
        self.assert_fields(entry, day=8, number=5, ware="iron", many=3, of=2)
        self.assertEqual(entry.word(), "split")
        self.assertEqual(entry.told(), ("split", 8, 5, "iron", 3, 2))

    def test_parting(self):
        entry = Parting(8, 5, "iron", "rust", 1, 4)
        self.assert_fields(entry, day=8, number=5, ware="iron", other="rust", share=1, whole=4)
        self.assertEqual(entry.word(), "part")
        self.assertEqual(entry.told(), ("part", 8, 5, "iron", "rust", 1, 4))

    def test_what_is_told_is_a_tuple(self):
        self.assertIsInstance(Give(8, 5, "iron", 4, [(3, 4)]).told(), tuple)
        self.assertIsInstance(Give(8, 5, "iron", 4, [(3, 4)]).told()[-1], tuple)


class NamedLotsAreCopied(unittest.TestCase):
    def makers(self):
        return (lambda named: Sell(1, 2, "a", 5, 1, 0, named), lambda named: Give(1, 2, "a", 5, named))

    def test_the_list_handed_in_stays(self):
        for make in self.makers():
            named = [(7, 3), (4, 2)]
            make(named).told()
            self.assertEqual(named, [(7, 3), (4, 2)])

    def test_what_is_done_to_it_afterwards_changes_nothing(self):
        for make in self.makers():
            named = [(7, 3), (4, 2)]
            entry = make(named)
            told = entry.told()
            named.append((9, 9))
            named[0] = (1, 1)
            self.assertEqual(entry.named, [(7, 3), (4, 2)])
            self.assertEqual(entry.told(), told)
            self.assertEqual(told[-1], ((7, 3), (4, 2)))


class GreatAndSmall(unittest.TestCase):
    """The ends of each range are within it."""

    def test_least(self):
        self.assertEqual(Buy(0, 0, "a", 1, 0, 0).cost, 0)
        self.assertEqual(Sell(0, 0, "a", 1, 0, 0, [(0, 1)]).proceeds, 0)
        self.assertEqual(Gift(0, 0, "a", 1, 0, 0).told(), ("gift", 0, 0, "a", 1, 0, 0))
        self.assertEqual(Give(0, 0, "a", 1, [(0, 1)]).told(), ("give", 0, 0, "a", 1, ((0, 1),)))
        self.assertEqual(Split(0, 0, "a", 1, 1).told(), ("split", 0, 0, "a", 1, 1))
        self.assertEqual(Parting(0, 0, "a", "b", 0, 1).told(), ("part", 0, 0, "a", "b", 0, 1))

    def test_greatest(self):
        six, nine = 10 ** 6, 10 ** 9
        ware = "zzzzzzzz"
        self.assertEqual(Buy(six, six, ware, nine, nine, nine).cost, 10 ** 18 + nine)
        self.assertEqual(Sell(six, six, ware, nine, nine, nine, [(six, nine)]).proceeds, 10 ** 18 - nine)
        self.assertEqual(
            Gift(six, six, ware, nine, 10 ** 18, six).told(), ("gift", six, six, ware, nine, 10 ** 18, six)
        )
        self.assertEqual(
            Give(six, six, ware, nine, [(six, nine)]).told(), ("give", six, six, ware, nine, ((six, nine),))
        )
        self.assertEqual(Split(six, six, ware, 1000, 1000).told(), ("split", six, six, ware, 1000, 1000))
        self.assertEqual(
            Parting(six, six, ware, "aaaaaaaa", six, six).told(),
            ("part", six, six, ware, "aaaaaaaa", six, six),
        )

    def test_each_letter_is_one_of_a_name(self):
        for sign in "abcdefghijklmnopqrstuvwxyz":
            self.assertEqual(Split(0, 0, sign, 1, 1).ware, sign)

    def test_each_length_of_a_name(self):
        for many in range(1, 9):
            self.assertEqual(Parting(0, 0, "q" * many, "z" * many, 1, 2).other, "z" * many)


if __name__ == "__main__":
    unittest.main()
