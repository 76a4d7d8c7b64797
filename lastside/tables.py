"""Tables: the slots of a cache and the forks of a tree, written in columns."""

from lastside.checks import ENTRY_LENGTH, check_flags
from lastside.staying import eviction_numbers

NUMBER_WIDTH = 3


def column(number):
    """The number, right-aligned in its column."""
    return str(number).rjust(NUMBER_WIDTH)


def slot_table(cache):
    """For each slot its number, its entry, its eviction number, and a mark if it is the victim."""
    numbers = eviction_numbers(cache.tree, cache.flags)
    victim = cache.victim
    rows = []
    for slot, entry in enumerate(cache.listed()):
        mark = " *" if slot == victim else ""
        rows.append(f"{column(slot)} {entry.ljust(ENTRY_LENGTH)} {column(numbers[slot])}{mark}")
    return rows


def fork_table(tree, flags):
    """For each fork its number, the first and the last slot below it, and its flag."""
    check_flags(tree, flags)
    rows = []
    for fork, flag in enumerate(flags):
        first, last = tree.span(fork)
        rows.append(f"{column(fork)}{column(first)}{column(last)} {flag}")
    return rows
