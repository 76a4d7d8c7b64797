"""Transfers: runs from one pattern to another one that renew some slots."""

from lastside.checks import check_chosen, check_pattern, check_run
from lastside.merging import agree, allowed_ends
from lastside.runs import end_pattern, first_wrong
from lastside.values import same_value


class Need:
    """What a subtree needs: its renewed slots, its least numbers of requests, and whether it may be empty.

    `by_load` and `by_hit` are the least numbers of requests if the first one is a load or a hit, or None.
    """

    def __init__(self, renewed, by_load, by_hit, empty):
        self.renewed = renewed
        self.by_load = by_load
        self.by_hit = by_hit
        self.empty = empty

    def choices(self):
        """The ways to begin: tuples (first letter, least requests, least blocks)."""
        rows = [("l", self.by_load, self.renewed), ("h", self.by_hit, self.renewed + 1)]
        return [row for row in rows if row[1] is not None]

    def shortest(self):
        """The least number of requests."""
        if self.empty:
            return 0
        return min([length for letter, length, least in self.choices()])


def slot_need(renewed):
    """What a slot needs that is, or is not, renewed."""
    return Need(1, 1, 2, False) if renewed else Need(0, None, 1, True)


def costs(length, least, other, ends):
    """The costs of a beginning side with this least length and these least blocks, beside another side.

    `ends` lists how the talk may end, as `allowed_ends` does.
    """
    found = []
    if True in ends and least == 1 and other.empty:
        found.append(length)
    for letter, other_length, other_least in other.choices():
        if False in ends:
            found.append(max(length, other_least) + max(other_length, least))
        if True in ends:
            found.append(max(length, other_least + 1) + max(other_length, least - 1))
    return found


def fork_need(left, right, start, end):
    """What a fork needs with these sides and these characters of the patterns."""
    found = {"l": [], "h": []}
    for side, part, other in (("L", left, right), ("R", right, left)):
        ends = allowed_ends(side, end)
        for letter, length, least in part.choices():
            if letter == "h" or start != side:
                found[letter].extend(costs(length, least, other, ends))
    empty = left.empty and right.empty and agree(start, end)
    by_load = min(found["l"], default=None)
    by_hit = min(found["h"], default=None)
    return Need(left.renewed + right.renewed, by_load, by_hit, empty)


def needs(tree, start, end, renewed):
    """What each node needs, by node; the arguments are checked first."""
    check_pattern(tree, start)
    check_pattern(tree, end)
    check_chosen(tree, renewed)
    found = {("slot", slot): slot_need(slot in renewed) for slot in range(len(tree))}
    for fork in tree.walk(last=True):
        left, right = tree.sides(fork)
        found[("fork", fork)] = fork_need(found[left], found[right], start[fork], end[fork])
    return found


def least_requests(tree, start, end, renewed):
    """The least number of requests of a transfer."""
    return needs(tree, start, end, renewed)[tree.top].shortest()


def need_table(tree, start, end, renewed):
    """The need table: tuples (fork, renewed slots, least with a load, least with a hit, may be empty)."""
    found = needs(tree, start, end, renewed)
    table = []
    for fork in tree.walk(last=True):
        need = found[("fork", fork)]
        table.append((fork, need.renewed, need.by_load, need.by_hit, need.empty))
    return table


def is_need_table(tree, start, end, renewed, table):
    """True if the table is the need table."""
    return same_value(table, need_table(tree, start, end, renewed))


def is_transfer(tree, start, end, renewed, run):
    """True if the run is a transfer that renews these slots."""
    check_pattern(tree, start)
    check_pattern(tree, end)
    check_chosen(tree, renewed)
    check_run(tree, run)
    loaded = sorted([slot for kind, slot in run if kind == "load"])
    if loaded != sorted(renewed) or first_wrong(tree, start, run) is not None:
        return False
    behind = end_pattern(tree, start, run)
    return all([agree(side, last) for side, last in zip(behind, end)])
