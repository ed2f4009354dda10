"""Points 6 and 7: what is no entry is refused with NoEntry."""

import unittest

from lotledger.entries import Buy, Gift, Give, Parting, Sell, Split
from lotledger.errors import NoEntry

# Arguments of which each kind can be made; one of them at a time is set wrong.
GOOD = (
    (Buy, {"day": 5, "number": 6, "ware": "tin", "pieces": 10, "price": 3, "fee": 2}),
    (Sell, {"day": 5, "number": 6, "ware": "tin", "pieces": 10, "price": 3, "fee": 2}),
    (Gift, {"day": 5, "number": 6, "ware": "tin", "pieces": 10, "cost": 30, "since": 4}),
    (Give, {"day": 5, "number": 6, "ware": "tin", "pieces": 10}),
    (Split, {"day": 5, "number": 6, "ware": "tin", "many": 3, "of": 2}),
    (Parting, {"day": 5, "number": 6, "ware": "tin", "other": "zinc", "share": 1, "whole": 4}),
)
RANGES = {
    "day": (0, 10 ** 6),
    "number": (0, 10 ** 6),
    "pieces": (1, 10 ** 9),
    "price": (0, 10 ** 9),
    "fee": (0, 10 ** 9),
    "cost": (0, 10 ** 18),
    "since": (0, 5),
    "many": (1, 1000),
    "of": (1, 1000),
    "share": (0, 4),
    "whole": (1, 10 ** 6),
}
NO_NAMES = ("", "abcdefghi", "T", "Tin", "tIn", "tiN", "t1n", "1", "ti n", " tin", "tin ", " ", "ti-n", "t_n",
            "tin.", "tin\n", "\n", "`", "{", "tin`", "{tin", "@", "~", "a,b")


class RefusedEntries(unittest.TestCase):
    def assert_refused(self, kind, arguments):
        with self.subTest(kind.__name__, **arguments), self.assertRaises(NoEntry):
            kind(**arguments)

    def test_the_good_ones_are_made(self):
        for kind, good in GOOD:
            self.assertEqual(kind(**good).number, 6)

    def test_numbers_at_the_ends_are_taken_and_beyond_them_refused(self):
        for kind, good in GOOD:
            for name in good:
                if name not in RANGES:
                    continue
                least, most = RANGES[name]
                for value in (least, most):
                    arguments = dict(good, **{name: value})
                    if name == "day":
                        arguments = dict(arguments, **({"since": 0} if kind is Gift else {}))
                    if name == "whole":
                        arguments = dict(arguments, share=0)
                    with self.subTest(kind.__name__, **arguments):
                        self.assertEqual(getattr(kind(**arguments), name), value)
                for value in (least - 1, most + 1, -(10 ** 30), 10 ** 30):
                    self.assert_refused(kind, dict(good, **{name: value}))

    def test_a_day_beyond_its_range_is_refused_whatever_the_since(self):
        for since in (0, -1, 10 ** 6, 10 ** 6 + 1):
            self.assert_refused(Gift, dict(GOOD[2][1], day=10 ** 6 + 1, since=since))
            self.assert_refused(Gift, dict(GOOD[2][1], day=-1, since=since))

    def test_a_whole_of_0_or_below_is_refused_whatever_the_share(self):
        for whole in (0, -1):
            for share in (-1, 0, 1):
                self.assert_refused(Parting, dict(GOOD[5][1], whole=whole, share=share))

    def test_values_of_another_kind(self):
        for kind, good in GOOD:
            for name in good:
                for value in ("5", "", [(1, 10)]) if name in RANGES else (5, [(1, 10)]):
                    self.assert_refused(kind, dict(good, **{name: value}))

    def test_truths_are_no_whole_numbers(self):
        for kind, good in GOOD:
            for name in good:
                if name in RANGES:
                    for truth in (True, False):
                        self.assert_refused(kind, dict(good, **{name: truth}))

    def test_wares_that_are_no_names(self):
        for kind, good in GOOD:
            for text in NO_NAMES:
                self.assert_refused(kind, dict(good, ware=text))

    def test_other_wares_that_are_no_names(self):
        for text in NO_NAMES:
            self.assert_refused(Parting, dict(GOOD[5][1], other=text))

    def test_a_wrong_sign_at_any_place_of_a_name(self):
        for place in range(8):
            text = "a" * place + "A" + "a" * (7 - place)
            self.assert_refused(Split, dict(GOOD[4][1], ware=text))
            self.assert_refused(Parting, dict(GOOD[5][1], other=text))

    def test_the_other_ware_is_the_ware(self):
        self.assert_refused(Parting, dict(GOOD[5][1], other="tin"))
        self.assertEqual(Parting(1, 1, "tin", "tinn", 1, 2).other, "tinn")

    def test_a_since_later_than_the_day(self):
        for day in (0, 1, 10 ** 6 - 1, 10 ** 6):
            self.assert_refused(Gift, dict(GOOD[2][1], day=day, since=day + 1))
            self.assertEqual(Gift(day, 1, "tin", 1, 1, day).since, day)

    def test_a_share_greater_than_the_whole(self):
        for whole in (1, 2, 10 ** 6):
            self.assert_refused(Parting, dict(GOOD[5][1], whole=whole, share=whole + 1))
            self.assertEqual(Parting(1, 1, "tin", "zinc", whole, whole).share, whole)


class RefusedNamedLots(unittest.TestCase):
    def assert_refused(self, pieces, named):
        kept = list(named)
        for make in (lambda: Sell(5, 6, "tin", pieces, 3, 2, named), lambda: Give(5, 6, "tin", pieces, named)):
            with self.subTest(pieces=pieces, named=named):
                with self.assertRaises(NoEntry):
                    make()
                self.assertEqual(named, kept)

    def assert_made(self, pieces, named):
        self.assertEqual(Sell(5, 6, "tin", pieces, 3, 2, named).named, named)
        self.assertEqual(Give(5, 6, "tin", pieces, named).named, named)

    def test_one_twice(self):
        self.assert_made(4, [(1, 2), (2, 2)])
        self.assert_refused(4, [(1, 2), (1, 2)])
        self.assert_refused(6, [(1, 2), (2, 3), (1, 1)])
        self.assert_refused(6, [(3, 1), (2, 2), (2, 3)])

    def test_a_number_outside_its_range(self):
        self.assert_made(4, [(0, 2), (10 ** 6, 2)])
        self.assert_refused(4, [(-1, 4)])
        self.assert_refused(4, [(10 ** 6 + 1, 4)])
        self.assert_refused(4, [(1, 2), (-1, 2)])
        self.assert_refused(4, [(10 ** 6 + 1, 2), (1, 2)])

    def test_pieces_below_1(self):
        self.assert_refused(4, [(1, 0), (2, 4)])
        self.assert_refused(4, [(1, 4), (2, 0)])
        self.assert_refused(4, [(1, -1), (2, 5)])
        self.assert_refused(4, [(1, 5), (2, -1)])

    def test_pieces_that_dont_come_to_the_entrys(self):
        for pieces in (1, 2, 4, 6, 7, 10 ** 9):
            self.assert_refused(pieces, [(1, 2), (2, 3)])
        self.assert_made(5, [(1, 2), (2, 3)])
        self.assert_refused(1, [(1, 2)])
        self.assert_refused(3, [(1, 2)])

    def test_none_at_all(self):
        for pieces in (1, 5):
            self.assert_refused(pieces, [])

    def test_truths_are_no_whole_numbers(self):
        self.assert_refused(4, [(True, 4)])
        self.assert_refused(1, [(4, True)])

    def test_whole_numbers_and_texts_are_no_named_lots(self):
        for named in (0, 4, "", "tin"):
            for make in (lambda: Sell(5, 6, "tin", 4, 3, 2, named), lambda: Give(5, 6, "tin", 4, named)):
                with self.subTest(named=named), self.assertRaises(NoEntry):
                    make()

    def test_right_named_lots_mend_no_wrong_entry(self):
        self.assert_refused(0, [])
        self.assert_refused(0, [(1, 0)])
        self.assert_refused(10 ** 9 + 1, [(1, 10 ** 9 + 1)])
        self.assert_refused(10 ** 9 + 1, [(1, 10 ** 9), (2, 1)])


if __name__ == "__main__":
    unittest.main()
