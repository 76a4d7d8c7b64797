"""The checks of arguments that all modules share.

A function `is_..` answers True or False, a function `check_..` raises the error of the argument.
"""

from lastside.errors import InvalidEntry, InvalidFlags, InvalidFork, InvalidLine, InvalidNumber
from lastside.errors import InvalidRow, InvalidSide, InvalidSlot

SIDES = ("L", "R")
KINDS = ("hit", "load")
ENTRY_LETTERS = "abcdefghijklmnopqrstuvwxyz0123456789"
ENTRY_LENGTH = 12
MOST_ENTRIES = 64


def is_whole(value):
    """True if the value is an integer."""
    # True and False are instances of int, but the document does not count them as integers.
    return isinstance(value, int) and not isinstance(value, bool)


def is_number(value, low, high):
    """True if the value is an integer from low to high; None in the place of high is no bound."""
    return is_whole(value) and low <= value and (high is None or value <= high)


def check_number(value, low, high):
    """Raises InvalidNumber for every value that is_number does not take."""
    if not is_number(value, low, high):
        raise InvalidNumber(value)


def is_made_of(value, letters):
    """True if the value is a string of these letters."""
    return isinstance(value, str) and all([letter in letters for letter in value])


def is_flags(tree, value):
    """True if the value is flags of the tree."""
    return is_made_of(value, "LR") and len(value) == tree.forks


def is_pattern(tree, value):
    """True if the value is a pattern of the tree."""
    return is_made_of(value, "LR?") and len(value) == tree.forks


def check_flags(tree, flags):
    """Raises InvalidFlags for every value that is not flags of the tree."""
    if not is_flags(tree, flags):
        raise InvalidFlags(flags)


def check_pattern(tree, pattern):
    """Raises InvalidFlags for every value that is not a pattern of the tree."""
    if not is_pattern(tree, pattern):
        raise InvalidFlags(pattern)


def check_end(tree, end):
    """Raises InvalidFlags for every value that is neither None nor a pattern of the tree."""
    if end is not None:
        check_pattern(tree, end)


def is_slot(tree, value):
    """True if the value is a slot of the tree."""
    return is_number(value, 0, len(tree) - 1)


def check_slot(tree, slot):
    """Raises InvalidSlot for every value that is not a slot of the tree."""
    if not is_slot(tree, slot):
        raise InvalidSlot(slot)


def check_fork(tree, fork):
    """Raises InvalidFork for every value that is not a fork of the tree."""
    if not is_number(fork, 0, tree.forks - 1):
        raise InvalidFork(fork)


def check_side(side):
    """Raises InvalidSide for every value that is not a side."""
    if side not in SIDES:
        raise InvalidSide(side)


def check_slots(tree, slots):
    """Raises InvalidSlot for every value that is not a list of slots; they may repeat."""
    if not isinstance(slots, list):
        raise InvalidSlot(slots)
    for slot in slots:
        check_slot(tree, slot)


def check_different(slots, last):
    """Raises InvalidSlot for every value that is not a list of different slots from 0 to last."""
    if not isinstance(slots, list):
        raise InvalidSlot(slots)
    seen = set()
    for slot in slots:
        if not is_number(slot, 0, last) or slot in seen:
            raise InvalidSlot(slot)
        seen.add(slot)


def check_chosen(tree, slots):
    """Raises InvalidSlot for every value that is not a list of different slots of the tree."""
    check_different(slots, len(tree) - 1)


def check_order(order, many):
    """Raises InvalidSlot for every value that is not a list of the slots below this number, each once."""
    check_different(order, many - 1)
    if len(order) < many:
        raise InvalidSlot(order)


def is_line(value, last):
    """True if the value is a line with a slot from 0 to last."""
    if not isinstance(value, tuple) or len(value) != 2:
        return False
    return value[0] in KINDS and is_number(value[1], 0, last)


def is_run(tree, value):
    """True if the value is a list of lines of the tree."""
    return isinstance(value, list) and all([is_line(line, len(tree) - 1) for line in value])


def check_lines(run, last):
    """Raises InvalidLine for every value that is not a list of lines with slots from 0 to last."""
    if not isinstance(run, list):
        raise InvalidLine(-1)
    for index, line in enumerate(run):
        if not is_line(line, last):
            raise InvalidLine(index)


def check_run(tree, run):
    """Raises InvalidLine for every value that is not a list of lines of the tree."""
    check_lines(run, len(tree) - 1)


def is_row(value):
    """True if the value is a row."""
    return is_made_of(value, "hl")


def check_rows(tree, rows):
    """Raises InvalidRow for every value that is not a list with one row for each slot."""
    if not isinstance(rows, list) or len(rows) != len(tree):
        raise InvalidRow(-1)
    for index, row in enumerate(rows):
        if not is_row(row):
            raise InvalidRow(index)


def is_entry(value):
    """True if the value is an entry."""
    return is_made_of(value, ENTRY_LETTERS) and 1 <= len(value) <= ENTRY_LENGTH


def check_entry(entry):
    """Raises InvalidEntry for every value that is not an entry."""
    if not is_entry(entry):
        raise InvalidEntry(entry)


def check_different_entries(entries, least, most):
    """Raises InvalidEntry for every value that is not a list of least to most different entries."""
    if not isinstance(entries, list) or not least <= len(entries) <= most:
        raise InvalidEntry(entries)
    seen = set()
    for entry in entries:
        if not is_entry(entry) or entry in seen:
            raise InvalidEntry(entry)
        seen.add(entry)


def check_entries(tree, entries):
    """Raises InvalidEntry for every value that is not a list with one entry for each slot."""
    check_different_entries(entries, len(tree), len(tree))
