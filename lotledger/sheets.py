"""Sheets: entries shown as a text and read from one, and reports of books."""

from lotledger.entries import entry_that_tells
from lotledger.errors import NoEntry, NoText
from lotledger.held import in_order
from lotledger.lots import cost_in, pieces_in

# How many words a row of each kind has, without named lots.
PLAIN_WORDS = {"buy": 7, "sell": 7, "gift": 7, "give": 5, "split": 6, "part": 7}
KINDS_THAT_NAME_LOTS = ("sell", "give")
# No number of an entry has more: the greatest is a gift's cost.
MOST_FIGURES = 19


def shown_entries(entries):
    """The sheet of the entries."""
    return "".join([row_of_words(words_of_entry(entry)) for entry in in_order(entries)])


def row_of_words(words):
    return " ".join([str(word) for word in words]) + "\n"


def words_of_entry(entry):
    told = list(entry.told())
    kind = told.pop(0)
    named = told.pop() if kind in KINDS_THAT_NAME_LOTS else None
    return told[:2] + [kind] + told[2:] + words_of_named(named)


def words_of_named(named):
    return [] if named is None else [f"{lot}:{pieces}" for lot, pieces in named]


def read_entries(text):
    """The entries that a sheet tells, in the rows' order."""
    rows = text.split("\n")
    # Behind the last line feed stands no row, but where a last row isn't ended by one.
    unended = rows.pop()
    entries = []
    seen = {}
    for place, row in enumerate(rows, start=1):
        entry = entry_in_row(row, place)
        if entry.number in seen:
            raise NoText(place)
        seen[entry.number] = True
        entries.append(entry)
    if unended != "":
        raise NoText(len(rows) + 1)
    return entries


def entry_in_row(row, place):
    try:
        return entry_of_words(row.split(" "))
    except NoEntry:
        raise NoText(place) from None


def entry_of_words(words):
    """The entry that a row's words tell; refuses with NoEntry where they tell none."""
    kind = kind_of_words(words)
    count = PLAIN_WORDS[kind]
    told = [kind] + [value_of_word(word) for word in words[:2] + words[3:count]]
    if kind in KINDS_THAT_NAME_LOTS:
        told.append(named_of_words(words[count:]))
    return entry_that_tells(told)


def kind_of_words(words):
    """The kind of a row that has as many words as that kind may have."""
    if len(words) < 3 or words[2] not in PLAIN_WORDS:
        raise NoEntry("no kind is told")
    kind = words[2]
    more = len(words) - PLAIN_WORDS[kind]
    if more < 0 or more > 0 and kind not in KINDS_THAT_NAME_LOTS:
        raise NoEntry("there are too few words, or too many")
    return kind


def named_of_words(words):
    return None if len(words) == 0 else [lot_of_word(word) for word in words]


def lot_of_word(word):
    halves = word.partition(":")
    return (value_of_word(halves[0]), value_of_word(halves[2]))


def value_of_word(word):
    """The number that a word writes; any other word is a text, which an entry refuses where a number is asked."""
    return int(word) if is_written_number(word) else word


def is_written_number(word):
    if word == "" or len(word) > MOST_FIGURES:
        return False
    if word.startswith("0") and word != "0":
        return False
    return all(["0" <= sign <= "9" for sign in word])


def report_of(book):
    """The rows of the sales, of the wares that are held, and of the sum of all counted gains."""
    sales = book.sales()
    rows = [words_of_sale(sale) for sale in sales]
    rows.extend([words_of_held(ware, book.row_of(ware)) for ware in sorted(book.held())])
    rows.append(["gain", sum([sale.counted() for sale in sales])])
    return "".join([row_of_words(row) for row in rows])


def words_of_sale(sale):
    words = ["sale", sale.number, sale.counted()]
    return words if sale.laid_on is None else words + ["laid", sale.laid_on]


def words_of_held(ware, lots):
    return ["held", ware, pieces_in(lots), cost_in(lots)] + [word_of_lot(lot) for lot in lots]


def word_of_lot(lot):
    number = lot.number
    pieces = lot.pieces
    cost = lot.cost
    return f"{number}:{pieces}:{cost}"
