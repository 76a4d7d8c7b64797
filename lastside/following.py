"""Following a trace: the flags that are possible at its moments while something is assumed."""

from lastside.claims import holds_of_flags, holds_of_line
from lastside.flags import fits
from lastside.hitplans import hit_plan_at
from lastside.sightings import REQUESTS, Turns
from lastside.trails import trail_from


def most_needed(tree, item):
    """A number of requests that reaches all that the most requests of a gap reach."""
    # As many hits as there are forks lead from all flags to all flags.
    return tree.forks if item[2] is None else min(item[2], tree.forks)


def bounds_of(tree, items):
    """The numbers of requests that the gaps of a trace need, as keys."""
    return {most_needed(tree, item): True for item in items if item[0] == "some"}


class Film:
    """A trace that is followed while something is assumed.

    An assumption is a tuple (claim, truth): the claim is true, or it is false, as the truth says. An object
    does not change.
    """

    def __init__(self, tree, items, assumed):
        many = len(items)
        self._tree = tree
        self._trace = items
        self._turns = Turns(tree)
        self._of_flags = [[pair for pair in assumed if pair[0][0] == "flag" and pair[0][1] == moment]
                          for moment in range(many + 1)]
        self._of_lines = [[pair for pair in assumed if pair[0][0] != "flag" and pair[0][1] == index]
                          for index in range(many)]
        self._near = {most: self._turns.all_within(most) for most in sorted(list(bounds_of(tree, items)))}

    def allows(self, moment, flags):
        """True if the assumptions allow the flags at the moment."""
        return all([holds_of_flags(claim, flags) == truth for claim, truth in self._of_flags[moment]])

    def begins(self):
        """The flags that are allowed at the first moment, ascending."""
        return [flags for flags in self._turns.every if self.allows(0, flags)]

    def lines_of(self, index, flags):
        """The lines for which a request item can stand from the flags, as far as they are allowed."""
        lines = self._turns.lines(self._trace[index], flags)
        terms = self._of_lines[index]
        return [line for line in lines if all([holds_of_line(claim, line) == truth for claim, truth in terms])]

    def leads(self, index, flags):
        """The flags to which the item can lead from the flags, as far as they are allowed."""
        item = self._trace[index]
        if item[0] == "flags":
            found = [flags] if fits(flags, item[1]) else []
        elif item[0] == "some":
            found = self._near[most_needed(self._tree, item)][flags]
        else:
            found = [self._turns.after[flags][slot] for kind, slot in self.lines_of(index, flags)]
        if len(self._of_flags[index + 1]) == 0:
            return list(found)
        return [after for after in found if self.allows(index + 1, after)]

    def ahead(self):
        """For each moment the flags to which the items before it can lead, ascending."""
        rows = [self.begins()]
        for index in range(len(self._trace)):
            found = {after: True for flags in rows[index] for after in self.leads(index, flags)}
            rows.append(sorted(list(found)))
        return rows

    def has_history(self):
        """True if there is a history."""
        rows = self.ahead()
        return len(rows[-1]) > 0

    def possible(self):
        """For each moment the flags that some history has there, ascending."""
        rows = self.ahead()
        kept = [rows[-1]]
        for index in list(range(len(self._trace)))[::-1]:
            right = {flags: True for flags in kept[-1]}
            kept.append([flags for flags in rows[index] if any([after in right for after in self.leads(index, flags)])])
        return kept[::-1]

    def run_between(self, index, flags, after):
        """The lines for which the item stands in a history that has these flags before and behind it."""
        item = self._trace[index]
        if item[0] == "flags":
            return []
        if item[0] in REQUESTS:
            return [line for line in self.lines_of(index, flags) if self._turns.after[flags][line[1]] == after][:1]
        run = [("hit", slot) for slot in hit_plan_at(self._tree, flags, after, 0)]
        # Hits at the slot to which the flags lead change nothing.
        idle, _ = trail_from(self._tree, after, self._tree.top)
        return run + [("hit", idle)] * (item[1] - len(run))

    def story(self):
        """A history, or None if there is none."""
        rows = self.possible()
        if len(rows[0]) == 0:
            return None
        start = rows[0][0]
        flags = start
        runs = []
        for index in range(len(self._trace)):
            after = [other for other in self.leads(index, flags) if other in rows[index + 1]][0]
            runs.append(self.run_between(index, flags, after))
            flags = after
        return (start, runs)

    def possible_lines(self, index, rows):
        """The lines for which a request item stands in some history, from the possible flags of all moments."""
        found = {}
        for flags in rows[index]:
            for line in self.lines_of(index, flags):
                if self._turns.after[flags][line[1]] in rows[index + 1]:
                    found[line] = True
        return list(found)
