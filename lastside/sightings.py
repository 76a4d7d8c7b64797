"""Sightings: the items of traces, and what requests do to all flags of a small tree."""

from lastside.checks import is_number, is_pattern, is_run, is_slot
from lastside.errors import InvalidItem, TooMany
from lastside.flags import all_flags, fits, turned, victim_of
from lastside.runs import end_pattern, first_wrong

MOST_SLOTS = 7
REQUESTS = ("hit", "load", "request")


def is_slot_tuple(tree, value):
    """True if the value is a tuple of slots, ascending, without duplicates and not empty."""
    if not isinstance(value, tuple) or len(value) == 0 or not all([is_slot(tree, slot) for slot in value]):
        return False
    return all([slot < following for slot, following in zip(value, value[1:])])


def is_item(tree, value):
    """True if the value is an item of a trace."""
    if not isinstance(value, tuple) or len(value) == 0:
        return False
    if value[0] == "some":
        return (len(value) == 3 and is_number(value[1], 0, None)
                and (value[2] is None or is_number(value[2], value[1], None)))
    if len(value) != 2:
        return False
    if value[0] == "flags":
        return is_pattern(tree, value[1])
    return value[0] in REQUESTS and is_slot_tuple(tree, value[1])


def check_items(tree, items):
    """Raises InvalidItem for every value that is not a list of items."""
    if not isinstance(items, list):
        raise InvalidItem(-1)
    for index, item in enumerate(items):
        if not is_item(tree, item):
            raise InvalidItem(index)


def check_size(tree):
    """Raises TooMany for a tree whose flags are too many to be followed."""
    if len(tree) > MOST_SLOTS:
        raise TooMany(MOST_SLOTS)


def check_trace(tree, items):
    """Raises the error of the items, or of a tree that is too large."""
    check_items(tree, items)
    check_size(tree)


def says(item, flags, run):
    """True if a run with so many lines, of these kinds and at these slots, is what the item tells from the flags."""
    if item[0] == "flags":
        return len(run) == 0 and fits(flags, item[1])
    if item[0] == "some":
        return item[1] <= len(run) and (item[2] is None or len(run) <= item[2])
    return len(run) == 1 and item[0] in ("request", run[0][0]) and run[0][1] in item[1]


def flags_behind(tree, flags, run):
    """The flags behind the run, or None for every value that is not a run that is valid from the flags."""
    if not is_run(tree, run) or first_wrong(tree, flags, run) is not None:
        return None
    return end_pattern(tree, flags, run)


class Turns:
    """What requests do to all flags of a tree: the flags behind them, by slot, and the victims."""

    def __init__(self, tree):
        every = all_flags(tree)
        self.every = every
        self.after = {flags: [turned(tree, flags, slot) for slot in range(len(tree))] for flags in every}
        self.victims = {flags: victim_of(tree, flags) for flags in every}

    def lines(self, item, flags):
        """The lines for which a request item can stand if it comes from the flags."""
        kind, slots = item
        hits = [("hit", slot) for slot in slots if kind != "load"]
        loads = [("load", slot) for slot in slots if kind != "hit" and slot == self.victims[flags]]
        return hits + loads

    def within(self, flags, most):
        """The flags to which at most so many requests lead from the flags."""
        found = {flags: True}
        front = [flags]
        for _ in range(most):
            behind = {after: True for before in front for after in self.after[before] if after not in found}
            for after in behind:
                found[after] = True
            front = list(behind)
        return list(found)

    def all_within(self, most):
        """The flags to which at most so many requests lead, by the flags before them."""
        return {flags: self.within(flags, most) for flags in self.every}
