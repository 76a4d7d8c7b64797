"""Comparing keepers: whether two of them behave alike for ever, and which requests part them."""

from lastside.checks import check_entry
from lastside.errors import InvalidEntry, TooMany

MOST_SLOTS = 6


class Pair:
    """Two keepers behind equal requests that got equal answers."""

    def __init__(self, first, second, requests):
        self.first = first
        self.second = second
        self.requests = requests

    def states(self):
        """The states of the two keepers."""
        return (self.first.state(), self.second.state())

    def has_paired_victims(self):
        """True if a load would evict the same entry from both keepers."""
        evicted = self.first.listed()[self.first.victim_slot()]
        return self.second.slot_of(evicted) == self.second.victim_slot()

    def followed_by(self, entry):
        """The pair behind a request for the entry."""
        first = self.first.twin()
        second = self.second.twin()
        first.request(entry)
        second.request(entry)
        return Pair(first, second, self.requests + [entry])

    def choices(self):
        """The entries whose requests lead to all next pairs: those in the keepers, and a new one."""
        return self.first.listed() + [new_entry(self.first)]

    def parting(self):
        """A shortest list of requests that parts the keepers by victims that are not paired."""
        evicted = self.first.listed()[self.first.victim_slot()]
        return self.requests + [new_entry(self.first), evicted]


def new_entry(keeper):
    """An entry that the keeper does not have."""
    entries = keeper.listed()
    names = [f"n{number}" for number in range(len(entries) + 1)]
    return [name for name in names if name not in entries][0]


def unshared_entries(first, second):
    """The entries that only one of two keepers has."""
    lists = (first.listed(), second.listed())
    return [entry for entry in lists[0] + lists[1] if entry not in lists[0] or entry not in lists[1]]


def next_pairs(pairs, seen):
    """The pairs behind one request more, one for each pair of states that is not among those seen."""
    found = {}
    for pair in pairs:
        for entry in pair.choices():
            behind = pair.followed_by(entry)
            if behind.states() not in seen:
                found.setdefault(behind.states(), behind)
    return list(found.values())


def compare(first, second):
    """("alike", table of all pairs of states), or ("parted", a shortest list of requests that parts the keepers)."""
    if len(first.listed()) > MOST_SLOTS or len(second.listed()) > MOST_SLOTS:
        raise TooMany(MOST_SLOTS)
    unshared = unshared_entries(first, second)
    if len(unshared) > 0:
        return ("parted", unshared[:1])
    seen = {}
    pairs = [Pair(first, second, [])]
    while len(pairs) > 0:
        for pair in pairs:
            if not pair.has_paired_victims():
                return ("parted", pair.parting())
            seen[pair.states()] = True
        pairs = next_pairs(pairs, seen)
    return ("alike", sorted(list(seen)))


def parted_at(first, second, requests):
    """The index of the first of these requests that gets different answers from the two keepers, or None."""
    if not isinstance(requests, list):
        raise InvalidEntry(requests)
    for entry in requests:
        check_entry(entry)
    one = first.twin()
    other = second.twin()
    for index, entry in enumerate(requests):
        if one.request(entry)[0] != other.request(entry)[0]:
            return index
    return None
