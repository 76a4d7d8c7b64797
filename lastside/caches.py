"""Caches: a tree with flags and one entry in each slot."""

from lastside.checks import check_entries, check_entry, check_flags, check_slot
from lastside.flags import turned, victim_of


def found_slot(entries, entry):
    """The slot of the entry among these entries by slot, or None if it is not one of them."""
    check_entry(entry)
    if entry not in entries:
        return None
    return entries.index(entry)


class Cache:
    """A cache that answers requests."""

    def __init__(self, tree, flags, entries):
        check_flags(tree, flags)
        check_entries(tree, entries)
        self.tree = tree
        self.flags = flags
        self._entries = list(entries)

    def __len__(self):
        return len(self._entries)

    def __eq__(self, other):
        return (isinstance(other, Cache) and self.tree == other.tree and self.flags == other.flags
                and self._entries == other._entries)

    def __contains__(self, entry):
        return entry in self._entries

    @property
    def victim(self):
        """The present victim."""
        return victim_of(self.tree, self.flags)

    def listed(self):
        """The list of the entries by slot."""
        return list(self._entries)

    def at(self, slot):
        """The entry in this slot."""
        check_slot(self.tree, slot)
        return self._entries[slot]

    def slot_of(self, entry):
        """The slot of the entry, or None if the entry is not in the cache."""
        return found_slot(self._entries, entry)

    def request(self, entry):
        """Answers a request for the entry: ("hit", slot, None) or ("load", slot, evicted)."""
        slot = self.slot_of(entry)
        if slot is not None:
            self.flags = turned(self.tree, self.flags, slot)
            return ("hit", slot, None)
        slot = self.victim
        evicted = self._entries[slot]
        self._entries[slot] = entry
        self.flags = turned(self.tree, self.flags, slot)
        return ("load", slot, evicted)

    def hit(self, slot):
        """A hit at the slot; returns its entry."""
        check_slot(self.tree, slot)
        self.flags = turned(self.tree, self.flags, slot)
        return self._entries[slot]

    def twin(self):
        """An equal cache that changes independently."""
        return Cache(self.tree, self.flags, self._entries)

    @classmethod
    def fresh(cls, tree):
        """The cache with flags of `L` alone and the entries `e0`, `e1`, ... by slot."""
        return cls(tree, "L" * tree.forks, [f"e{slot}" for slot in range(len(tree))])
