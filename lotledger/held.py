"""Histories: their order, and what their entries leave."""

from lotledger.errors import NotHeld, Twice


def in_order(entries):
    """The entries by day, and on one day by number."""
    refuse_twice([entry.number for entry in entries])
    return sorted(entries, key=place_of)


def place_of(entry):
    return (entry.day, entry.number)


def refuse_twice(numbers):
    # Sorted, alike ones stand side by side, and the least that is there twice comes first.
    rising = sorted(numbers)
    for ahead, behind in zip(rising, rising[1:]):
        if ahead == behind:
            raise Twice(ahead)


def held_after(entries):
    """What the entries leave, done in their order."""
    held = {}
    for entry in in_order(entries):
        behind = entry.held_behind(held)
        if behind is None:
            raise NotHeld(entry.number)
        held = behind
    return held
