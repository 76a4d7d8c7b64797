"""Blaming faults: the least numbers of faults with which a faulty trace can be followed."""

from lastside.following import Film
from lastside.sightings import REQUESTS, Turns


class Blame:
    """A trace that is followed with faults, of the kinds that are allowed; an object does not change."""

    def __init__(self, tree, items, wrong, false, lost):
        self._trace = items
        self._turns = Turns(tree)
        self._film = Film(tree, items, [])
        self._wrong = wrong
        self._false = false
        self._lost = lost

    def begins(self):
        """All flags."""
        return list(self._turns.every)

    def lost_requests(self, flags):
        """The flags behind one lost request, by slot, if lost requests are allowed."""
        return list(self._turns.after[flags]) if self._lost else []

    def takings(self, index, flags):
        """The ways in which the item can be taken from the flags: tuples (word, faults, flags behind)."""
        ways = [("kept", 0, after) for after in self._film.leads(index, flags)]
        if self._trace[index][0] in REQUESTS:
            if self._wrong:
                ways.extend([("wrong", 1, after) for after in self._turns.after[flags]])
            if self._false:
                ways.append(("false", 1, flags))
        return ways

    def with_lost(self, costs):
        """The least costs by flags if lost requests may follow."""
        least = {flags: costs[flags] for flags in costs}
        front = list(least)
        while len(front) > 0:
            cheaper = {}
            for flags in front:
                for after in self.lost_requests(flags):
                    if after not in least or least[flags] + 1 < least[after]:
                        least[after] = least[flags] + 1
                        cheaper[after] = True
            front = list(cheaper)
        return least

    def rows(self):
        """The least costs by flags for each moment."""
        found = [self.with_lost({flags: 0 for flags in self.begins()})]
        for index in range(len(self._trace)):
            costs = {}
            for flags, cost in found[index].items():
                for word, faults, after in self.takings(index, flags):
                    costs[after] = min(cost + faults, costs.get(after, cost + faults))
            found.append(self.with_lost(costs))
        return found

    def step_to(self, rows, index, flags):
        """A last step to the flags at the moment with this index, with the least cost of `rows`.

        A tuple of the moment and the flags before the step and of the step itself.
        """
        cost = rows[index][flags]
        for before, less in rows[index - 1].items():
            for word, faults, after in self.takings(index - 1, before):
                if after == flags and less + faults == cost:
                    return (index - 1, before, (word, index - 1, self._lines(word, index - 1, before, after)))
        for before, less in rows[index].items():
            for slot, after in enumerate(self.lost_requests(before)):
                if after == flags and less + 1 == cost:
                    return (index, before, ("lost", index, [("hit", slot)]))
        return None

    def _lines(self, word, index, before, after):
        """The lines of a step with this word for the item."""
        if word == "kept":
            return self._film.run_between(index, before, after)
        if word == "wrong":
            return [("hit", self._turns.after[before].index(after))]
        return []

    def story(self):
        """A fault story with the least number of faults, or None."""
        rows = self.rows()
        if len(rows[-1]) == 0:
            return None
        least = min(list(rows[-1].values()))
        flags = [last for last, cost in rows[-1].items() if cost == least][0]
        index = len(self._trace)
        steps = []
        # At the first moment all flags cost nothing, so no step leads to them.
        while index > 0:
            index, flags, step = self.step_to(rows, index, flags)
            steps.append(step)
        return (flags, steps[::-1])
