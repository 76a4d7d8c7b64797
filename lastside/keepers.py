"""Keepers: what holds the entries of some slots and decides where a load goes."""

from lastside.caches import found_slot
from lastside.checks import MOST_ENTRIES, check_different_entries, check_entries, check_flags, check_order
from lastside.rules import check_rule, turned_by, victim_by


class Keeper:
    """The base class of the keepers, which answers hits; only the classes below know where a load goes."""

    KIND = "none"

    def __init__(self, entries):
        check_different_entries(entries, 1, MOST_ENTRIES)
        self._entries = list(entries)

    def listed(self):
        """The list of the entries by slot."""
        return list(self._entries)

    def slot_of(self, entry):
        """The slot of the entry, or None if the keeper does not have it."""
        return found_slot(self._entries, entry)

    def request(self, entry):
        """Answers a request for the entry: ("hit", slot, None) or ("load", slot, evicted)."""
        slot = self.slot_of(entry)
        if slot is not None:
            self._follow(("hit", slot))
            return ("hit", slot, None)
        slot = self.victim_slot()
        evicted = self._entries[slot]
        self._entries[slot] = entry
        self._follow(("load", slot))
        return ("load", slot, evicted)

    def state(self):
        """The state as a text."""
        return ""

    def victim_slot(self):
        """The slot to which a load would go now; a keeper of the base class has none."""
        return None

    def twin(self):
        """An independent copy."""
        return Keeper(self._entries)

    def _follow(self, line):
        """Changes the state as the line, a hit or a load at a slot, does."""


class SideKeeper(Keeper):
    """A keeper that a tree with flags and a rule steers."""

    KIND = "side"

    def __init__(self, tree, flags, entries, rule="tta"):
        check_flags(tree, flags)
        check_entries(tree, entries)
        check_rule(rule)
        Keeper.__init__(self, entries)
        self._tree = tree
        self._flags = flags
        self._rule = rule

    def state(self):
        """The flags."""
        return self._flags

    def victim_slot(self):
        """The slot to which a load would go now."""
        return victim_by(self._tree, self._rule, self._flags)

    def twin(self):
        """An independent copy."""
        return SideKeeper(self._tree, self._flags, self._entries, self._rule)

    def _follow(self, line):
        """Turns the flags as the rule says."""
        self._flags = turned_by(self._tree, self._rule, self._flags, line)


class QueueKeeper(Keeper):
    """A keeper whose loads go to the slots in turn."""

    KIND = "queue"

    def __init__(self, entries, order):
        Keeper.__init__(self, entries)
        check_order(order, len(entries))
        self._order = list(order)

    def state(self):
        """The present order of the slots."""
        return ",".join([str(slot) for slot in self._order])

    def victim_slot(self):
        """The slot to which a load would go now."""
        return self._order[0]

    def twin(self):
        """An independent copy."""
        return QueueKeeper(self._entries, self._order)

    def _follow(self, line):
        """Moves the slot of a load to the end of the order."""
        if line[0] == "load":
            self._move_back(line[1])

    def _move_back(self, slot):
        """Moves the slot to the end of the order."""
        self._order = [other for other in self._order if other != slot] + [slot]


class RecencyKeeper(QueueKeeper):
    """A keeper whose loads go to the slot that was used longest ago."""

    KIND = "recency"

    def __init__(self, entries, order):
        QueueKeeper.__init__(self, entries, order)

    def state(self):
        """The present order of the slots."""
        return ",".join([str(slot) for slot in self._order])

    def victim_slot(self):
        """The slot to which a load would go now."""
        return self._order[0]

    def twin(self):
        """An independent copy."""
        return RecencyKeeper(self._entries, self._order)

    def _follow(self, line):
        """Moves the slot of the line to the end of the order."""
        self._move_back(line[1])
