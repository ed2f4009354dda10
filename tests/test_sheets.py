"""Points 25 and 26: entries shown as a text, and read from one."""

import inspect
import itertools
import random
import re
import unittest

from lotledger.entries import Buy, Gift, Give, Parting, Sell, Split
from lotledger.errors import NoText, Twice
from lotledger.sheets import read_entries, report_of, shown_entries

SIX, NINE = 10 ** 6, 10 ** 9

# Every kind, in order, and how it is shown.
SHOWN = (
    (Buy(0, 12, "tin", 10, 25, 7), "0 12 buy tin 10 25 7"),
    (Buy(1, 1, "tin", 1, 0), "1 1 buy tin 1 0 0"),
    (Sell(1, 2, "tin", 5, 8, 3), "1 2 sell tin 5 8 3"),
    (Sell(1, 10, "tin", 5, 8), "1 10 sell tin 5 8 0"),
    (Sell(2, 0, "tin", 6, 30, 5, [(12, 6)]), "2 0 sell tin 6 30 5 12:6"),
    (Sell(2, 3, "tin", 6, 30, 0, [(12, 1), (0, 3), (1, 2)]), "2 3 sell tin 6 30 0 12:1 0:3 1:2"),
    (Gift(3, 4, "zinc", 4, 90, 2), "3 4 gift zinc 4 90 2"),
    (Gift(3, 5, "zinc", 4, 0, 0), "3 5 gift zinc 4 0 0"),
    (Give(4, 6, "zinc", 4), "4 6 give zinc 4"),
    (Give(4, 7, "zinc", 4, [(5, 3), (4, 1)]), "4 7 give zinc 4 5:3 4:1"),
    (Split(10, 8, "zinc", 3, 2), "10 8 split zinc 3 2"),
    (Parting(100, 9, "zinc", "ore", 1, 4), "100 9 part zinc ore 1 4"),
    (Parting(100, 11, "part", "buy", 0, 1), "100 11 part part buy 0 1"),
)
ENTRIES = [entry for entry, _ in SHOWN]
ROWS = [row for _, row in SHOWN]
SHEET = "".join(row + "\n" for row in ROWS)

# The ends of the ranges.
AT_THE_ENDS = (
    "0 0 buy a 1 0 0", f"{SIX} {SIX} buy abcdefgh {NINE} {NINE} {NINE}", "0 0 sell a 1 0 0 0:1",
    f"{SIX} {SIX} sell zzzzzzzz {NINE} {NINE} {NINE} {SIX}:{NINE}", "0 0 gift a 1 0 0",
    f"{SIX} {SIX} gift a {NINE} {10 ** 18} {SIX}", f"0 0 give a {NINE} 0:1 1:{NINE - 1}", "0 0 split a 1 1",
    "0 0 split a 1000 1000", "0 0 part a b 0 1", f"0 0 part b a {SIX} {SIX}", "5 0 gift a 1 0 5",
)

TOO_FEW_OR_MANY_WORDS = (
    "", "1", "1 1", "1 1 buy", "1 1 buy tin", "1 1 buy tin 5", "1 1 buy tin 5 5", "1 1 buy tin 5 5 5 5",
    "1 1 buy tin 5 5 5 3:5", "1 1 sell tin 5 5", "1 1 sell tin 5 5 3:5", "1 1 sell tin 5 5 0 5", "1 1 sell tin",
    "1 1 gift tin 5 5", "1 1 gift tin 5 5 0 0", "1 1 gift tin 5 5 0 3:5", "1 1 give tin", "1 1 give tin 5 5",
    "1 1 give", "1 1 split tin 2", "1 1 split tin 2 1 1", "1 1 split tin 2 1 3:5", "1 1 part tin ore 1",
    "1 1 part tin ore 1 2 3", "1 1 part tin 1 2", "1 1 part tin ore 1 2 3:5", "buy tin 5 5 5", "1 buy tin 5 5 5",
)
BLANKS = (
    " ", "  ", " 1 1 give tin 5", "1 1 give tin 5 ", "1  1 give tin 5", "1 1  give tin 5", "1 1 give  tin 5",
    "1 1 give tin  5", "1 1 give tin 5  3:5", "1 1 give tin 5 3:5 ", "1 1 give tin 5 3:2  4:3", "1 1 give tin 5 3 :5",
    "1 1 give tin 5 3: 5", "1 1 sell tin 5 5 5 ", "1 1 sell tin 5 5  3:5", "1 1 buy tin 5 5 ", "1 1 buy tin 5  5",
    " 1 1 split tin 2 1", "1 1 part tin  1 2", "1 1 buy  5 5 5", "1 1  tin 5 5 5",
)
FIGURES = (
    "01 1 give tin 5", "1 01 give tin 5", "1 00 give tin 5", "00 1 give tin 5", "1 1 give tin 05", "+1 1 give tin 5",
    "1 +1 give tin 5", "-1 1 give tin 5", "1 -1 give tin 5", "-0 1 give tin 5", "1 -0 give tin 5", "1 1 give tin +5",
    "1 1 give tin -5", "1 1 buy tin 5 05 0", "1 1 buy tin 5 5 00", "1 1 buy tin 5 5 -1", "1 1 buy tin 5 -5 0",
    "1 1 give tin 5 03:5", "1 1 give tin 5 3:05", "1 1 give tin 5 +3:5", "1 1 give tin 5 3:+5", "1 1 give tin 5 -3:5",
    "1 1 split tin 02 1", "1 1 part tin ore 01 2", "1 1 part tin ore 1 02", "1 1 gift tin 5 5 01", "1 1 give tin 5.0",
    "1 1 give tin 5e1", "1 1 give tin 1_0", "1 1 give tin 0x5", "1 1 give tin five", "a 1 give tin 5",
    "1 a give tin 5", "1.0 1 give tin 5", "1 1 give tin 5,", "1 1 give tin '5'", "1 1 gift tin 5 05 1",
)
OUT_OF_RANGE = (
    f"{SIX + 1} 1 give tin 5", f"1 {SIX + 1} give tin 5", "1 1 give tin 0", f"1 1 give tin {NINE + 1}",
    "1 1 buy tin 0 5 5", f"1 1 buy tin {NINE + 1} 5 5", f"1 1 buy tin 5 {NINE + 1} 5", f"1 1 buy tin 5 5 {NINE + 1}",
    "1 1 sell tin 0 5 5", f"1 1 sell tin {NINE + 1} 5 5", f"1 1 sell tin 5 {NINE + 1} 5",
    f"1 1 sell tin 5 5 {NINE + 1}", "1 1 gift tin 0 5 1", f"1 1 gift tin {NINE + 1} 5 1",
    f"1 1 gift tin 5 {10 ** 18 + 1} 1", "1 1 gift tin 5 5 2", "0 1 gift tin 5 5 1", "1 1 split tin 0 1",
    "1 1 split tin 1 0", "1 1 split tin 1001 1", "1 1 split tin 1 1001", "1 1 part tin ore 1 0",
    "1 1 part tin ore 0 0", "1 1 part tin ore 3 2", f"1 1 part tin ore 1 {SIX + 1}", f"1 1 give tin 5 {SIX + 1}:5",
    f"1 1 give tin {'9' * 30}", f"{'1' * 5000} 1 give tin 5", f"1 1 give tin 5 3:{'5' * 5000}",
)
NO_KINDS = (
    "1 1 Buy tin 5 5 5", "1 1 BUY tin 5 5 5", "1 1 bought tin 5 5 5", "1 1 buys tin 5 5 5", "1 1 bu tin 5 5 5",
    "1 1 parting tin ore 1 2", "1 1 tin buy 5 5 5", "1 1 giving tin 5", "1 1 join tin 2 1", "1 1 1 tin 5 5 5",
    "1 1 buy: tin 5 5 5", "1 1 eldest tin 5",
)
NO_NAMES = (
    "1 1 give Tin 5", "1 1 give TIN 5", "1 1 give ninelette 5", "1 1 give t1n 5", "1 1 give 5 5", "1 1 give t-n 5",
    "1 1 give t_n 5", "1 1 give tin, 5", "1 1 give 0 5", "1 1 part tin tin 1 2", "1 1 part tin Ore 1 2",
    "1 1 part tin 5 1 2", "1 1 part tin ninelette 1 2", "1 1 part 5 tin 1 2", "1 1 buy tin! 5 5 5",
    "1 1 split tin~ 2 1", "1 1 gift ti:n 5 5 1",
)
NAMED_LOTS = (
    "1 1 give tin 5 3:4", "1 1 give tin 5 3:6", "1 1 give tin 5 3:4 4:2", "1 1 give tin 5 3:4 3:1",
    "1 1 give tin 5 3:5 4:0", "1 1 give tin 5 3:0 4:5", "1 1 give tin 5 3:3 4:1 3:1", "1 1 give tin 5 3",
    "1 1 give tin 5 3:", "1 1 give tin 5 :5", "1 1 give tin 5 :", "1 1 give tin 5 3:5:", "1 1 give tin 5 3:5:5",
    "1 1 give tin 5 ::", "1 1 give tin 5 3::5", "1 1 give tin 5 3;5", "1 1 give tin 5 3,5", "1 1 give tin 5 (3,5)",
    "1 1 give tin 5 a:5", "1 1 give tin 5 3:a", "1 1 give tin 5 None", "1 1 give tin 5 3:2,4:3",
    "1 1 sell tin 5 5 0 3:4", "1 1 sell tin 5 5 0 3:6", "1 1 sell tin 5 5 0 3:4 3:1", "1 1 sell tin 5 5 0 3:5 4:0",
    "1 1 sell tin 5 5 3:5 0", "1 1 give tin 3:5 5", "1 1 sell tin 5 5 0 None",
)
BAD_ROWS = TOO_FEW_OR_MANY_WORDS + BLANKS + FIGURES + OUT_OF_RANGE + NO_KINDS + NO_NAMES + NAMED_LOTS


def told(entries):
    return [entry.told() for entry in entries]


class Interface(unittest.TestCase):
    def test_arguments(self):
        for function, arguments in ((shown_entries, "(entries)"), (read_entries, "(text)"), (report_of, "(book)")):
            with self.subTest(function.__name__):
                self.assertEqual(str(inspect.signature(function)), arguments)


class Shown(unittest.TestCase):
    def test_each_kind(self):
        for entry, row in SHOWN:
            with self.subTest(row):
                self.assertEqual(shown_entries([entry]), row + "\n")

    def test_all_in_order_whatever_the_lists_order(self):
        self.assertEqual(shown_entries(ENTRIES), SHEET)
        for seed in range(50):
            mixed = list(ENTRIES)
            random.Random(seed).shuffle(mixed)
            handed = list(mixed)
            self.assertEqual(shown_entries(handed), SHEET)
            self.assertEqual([id(entry) for entry in handed], [id(entry) for entry in mixed])

    def test_of_no_entries_a_text_without_signs(self):
        self.assertEqual(shown_entries([]), "")

    def test_entries_stay(self):
        before = told(ENTRIES)
        shown_entries(ENTRIES)
        self.assertEqual(told(ENTRIES), before)

    def test_twice_with_the_least_number(self):
        entries = [Buy(1, 8, "a", 1, 1), Buy(1, 2, "a", 1, 1), Split(2, 8, "a", 1, 1), Buy(7, 5, "a", 1, 1),
                   Give(9, 5, "a", 1)]
        for mixed in itertools.permutations(entries):
            with self.assertRaises(Twice) as refused:
                shown_entries(list(mixed))
            self.assertEqual(refused.exception.number, 5)

    def test_what_cant_be_done_is_shown(self):
        self.assertEqual(shown_entries([Sell(1, 1, "tin", 5, 5)]), "1 1 sell tin 5 5 0\n")


class Read(unittest.TestCase):
    def test_each_kind(self):
        for entry, row in SHOWN:
            with self.subTest(row):
                entries = read_entries(row + "\n")
                self.assertEqual(told(entries), [entry.told()])
                self.assertEqual([type(one) for one in entries], [type(entry)])

    def test_what_is_shown_is_read_as_the_same(self):
        self.assertEqual(told(read_entries(shown_entries(ENTRIES[::-1]))), told(ENTRIES))

    def test_in_the_rows_order(self):
        for seed in range(50):
            mixed = list(SHOWN)
            random.Random(seed).shuffle(mixed)
            entries = read_entries("".join(row + "\n" for _, row in mixed))
            self.assertEqual(told(entries), told(entry for entry, _ in mixed))
            self.assertEqual(shown_entries(entries), SHEET)

    def test_a_text_without_signs(self):
        self.assertEqual(read_entries(""), [])

    def test_the_ends_of_the_ranges(self):
        for row in AT_THE_ENDS:
            with self.subTest(row):
                self.assertEqual(shown_entries(read_entries(row + "\n")), row + "\n")

    def test_sixty_rows(self):
        text = "".join(f"{number % 7} {number} buy tin {number + 1} 5 0\n" for number in range(60))
        self.assertEqual([entry.number for entry in read_entries(text)], list(range(60)))

    def test_the_list_is_the_askers_own(self):
        entries = read_entries(SHEET)
        self.assertIs(type(entries), list)
        entries[4].named.clear()
        entries.clear()
        self.assertEqual(told(read_entries(SHEET)), told(ENTRIES))

    def test_what_cant_be_done_is_read(self):
        self.assertEqual(told(read_entries("1 1 sell tin 5 5 0\n")), [Sell(1, 1, "tin", 5, 5).told()])


class Refused(unittest.TestCase):
    def assert_refused(self, text, row):
        with self.subTest(text[:200]):
            with self.assertRaises(NoText) as refused:
                read_entries(text)
            self.assertIs(type(refused.exception), NoText)
            self.assertEqual(refused.exception.row, row)

    def test_bad_rows_alone(self):
        for row in BAD_ROWS:
            self.assert_refused(row + "\n", 1)

    def test_bad_rows_among_good_ones(self):
        for place, row in enumerate(BAD_ROWS):
            ahead = place % len(ROWS)
            text = "".join(good + "\n" for good in ROWS[:ahead] + [row] + ROWS[ahead:])
            self.assert_refused(text, ahead + 1)

    def test_the_first_bad_row_is_told(self):
        self.assert_refused(f"{ROWS[0]}\nbad\n{ROWS[1]}\n\n", 2)
        self.assert_refused(f"{ROWS[0]}\n{ROWS[1]}\n\nbad\n", 3)
        self.assert_refused(f"\n{ROWS[0]}\nbad", 1)

    def test_an_empty_row(self):
        self.assert_refused("\n", 1)
        self.assert_refused("\n\n", 1)
        self.assert_refused("\n" + SHEET, 1)
        self.assert_refused(SHEET + "\n", len(ROWS) + 1)
        self.assert_refused(f"{ROWS[0]}\n\n{ROWS[1]}\n", 2)

    def test_a_last_row_without_line_feed(self):
        for many in range(1, len(ROWS) + 1):
            self.assert_refused("\n".join(ROWS[:many]), many)
        for row in ("bad", " ", ROWS[0]):
            self.assert_refused(row, 1)
            self.assert_refused(ROWS[1] + "\n" + row, 2)

    def test_a_bad_row_ahead_goes_before_the_one_without_line_feed(self):
        self.assert_refused(f"{ROWS[0]}\nbad\n{ROWS[1]}", 2)
        self.assert_refused(f"{ROWS[0]}\n{ROWS[0]}\n{ROWS[1]}", 2)

    def test_a_number_told_twice(self):
        self.assert_refused(f"{ROWS[0]}\n{ROWS[0]}\n", 2)
        self.assert_refused(f"{SHEET}7 12 split ore 1 1\n", len(ROWS) + 1)
        self.assert_refused(f"{SHEET}7 0 split ore 1 1\n", len(ROWS) + 1)
        self.assert_refused("9 4 give a 1\n9 5 give a 1\n0 5 buy b 1 1 1\n0 4 give c 1\n", 3)

    def test_twice_and_bad_the_first_row_goes_first(self):
        self.assert_refused("1 1 give a 1\n2 1 give a 1\nbad\n", 2)
        self.assert_refused("1 1 give a 1\nbad\n2 1 give a 1\n", 2)

    def test_no_refusal_stays_behind(self):
        with self.assertRaises(NoText):
            read_entries(SHEET + "bad\n")
        self.assertEqual(told(read_entries(SHEET)), told(ENTRIES))


def is_entry_row(row):
    """Whether a row tells an entry, told anew by patterns."""
    number = "(0|[1-9][0-9]{0,18})"
    name = "[a-z]{1,8}"
    patterns = {
        "buy": f"{number} {number} buy {name} {number} {number} {number}",
        "sell": f"{number} {number} sell {name} {number} {number} {number}((?: {number}:{number})*)",
        "gift": f"{number} {number} gift {name} {number} {number} {number}",
        "give": f"{number} {number} give {name} {number}((?: {number}:{number})*)",
        "split": f"{number} {number} split {name} {number} {number}",
        "part": f"{number} {number} part {name} {name} {number} {number}",
    }
    for kind, pattern in patterns.items():
        if re.fullmatch(pattern, row):
            words = row.split(" ")
            numbers = [int(word) for word in words if word.isdigit()]
            named = [tuple(map(int, word.split(":"))) for word in words if ":" in word]
            return max(numbers[:2]) <= SIX and is_in_range(kind, words, numbers, named)
    return False


def is_in_range(kind, words, numbers, named):
    if kind in ("split", "part"):
        first, second = numbers[2:]
        if kind == "split":
            return 1 <= min(first, second) and max(first, second) <= 1000
        return words[3] != words[4] and 1 <= second <= SIX and first <= second
    pieces = numbers[2]
    if not 1 <= pieces <= NINE:
        return False
    if kind == "gift":
        return numbers[3] <= 10 ** 18 and numbers[4] <= numbers[0]
    if named:
        lots = [lot for lot, _ in named]
        if len(set(lots)) < len(lots) or max(lots) > SIX or min(named, key=lambda pair: pair[1])[1] < 1:
            return False
        if sum(pair[1] for pair in named) != pieces:
            return False
    return all(number <= NINE for number in numbers[3:])


def first_bad_row(text):
    """The number of the first row that is refused, or None, told anew."""
    seen = []
    for place, row in enumerate(text.split("\n"), start=1):
        is_last = place == text.count("\n") + 1
        if is_last and row == "":
            return None
        if is_last or not is_entry_row(row) or int(row.split(" ")[1]) in seen:
            return place
        seen.append(int(row.split(" ")[1]))
    return None


class NearlySheets(unittest.TestCase):
    """Sheets in which a few signs or words are changed, against a second telling of what a row is."""

    def changed(self, chance, text):
        words = re.findall(r"[^ \n]+|[ \n]", text)
        place = chance.randrange(len(words))
        act = chance.randrange(5)
        if act == 0:
            words[place] = chance.choice(words)
        elif act == 1:
            words.insert(place, chance.choice(words + [" ", "\n", "0", ":"]))
        elif act == 2:
            words.pop(place)
        elif act == 3:
            words[place] = chance.choice(("0", "1", "2", "10", str(SIX), str(SIX + 1), str(NINE), "1:1", "tin", "give"))
        else:
            text = "".join(words)
            place = chance.randrange(len(text))
            return text[:place] + chance.choice("019 a:\n-+Z.") + text[place + chance.randrange(2):]
        return "".join(words)

    def test_against_a_second_telling(self):
        chance = random.Random(26)
        read = refused = 0
        for _ in range(6000):
            text = "".join(row + "\n" for row in chance.sample(ROWS, chance.randrange(1, 5)))
            for _ in range(chance.randrange(1, 3)):
                text = self.changed(chance, text) if text else text
            asked = first_bad_row(text)
            with self.subTest(text):
                try:
                    entries = read_entries(text)
                except NoText as refusal:
                    refused += 1
                    self.assertEqual(refusal.row, asked)
                else:
                    read += 1
                    self.assertIsNone(asked)
                    self.assertEqual("".join(shown_entries([entry]) for entry in entries), text)
        self.assertGreater(read, 500)
        self.assertGreater(refused, 500)


if __name__ == "__main__":
    unittest.main()
