"""Holding: at which rate loads are possible while some slots are kept, and how far a run may exceed it."""

from math import gcd

from lastside.checks import check_chosen, is_flags, is_run
from lastside.errors import TooMany
from lastside.ratios import at_least, lowest, ratio_product, ratio_sum
from lastside.runs import end_pattern, first_wrong
from lastside.values import same_value

MOST_SLOTS = 10


class Bound:
    """The rate and the slack of a node, both as ratios."""

    def __init__(self, rate, slack):
        self.rate = rate
        self.slack = slack


def fork_bound(left, right):
    """The bound of a fork with these sides."""
    high, low = (left, right) if at_least(left.rate, right.rate) else (right, left)
    # This is (1 + t) / (1 + s) of the rates s and t of the two sides.
    share = lowest(high.rate[1] * (low.rate[0] + low.rate[1]), low.rate[1] * (high.rate[0] + high.rate[1]))
    rest = (share[1] - share[0], share[1])
    slack = ratio_sum(ratio_sum(ratio_product(share, high.slack), rest), low.slack)
    return Bound(ratio_product(high.rate, share), slack)


def bounds(tree, kept):
    """The bounds of all nodes, by node; the slots are checked first."""
    check_chosen(tree, kept)
    found = {("slot", slot): Bound((0 if slot in kept else 1, 1), (0, 1)) for slot in range(len(tree))}
    for fork in tree.walk(last=True):
        left, right = tree.sides(fork)
        found[("fork", fork)] = fork_bound(found[left], found[right])
    return found


def hold_rate(tree, kept):
    """The rate of the tree as a tuple (loads, requests) in lowest terms."""
    return bounds(tree, kept)[tree.top].rate


def merged_cycle(high, low):
    """The run of two cycles: the one with the higher rate has a line of the other one before each of its loads."""
    loads = len([kind for kind, slot in high if kind == "load"])
    times = len(low) // gcd(loads, len(low))
    run = []
    taken = 0
    for line in high * times:
        if line[0] == "load":
            run.append(low[taken % len(low)])
            taken += 1
        run.append(line)
    return run


def hold_cycle(tree, kept):
    """A holding cycle: a tuple (flags, run)."""
    found = bounds(tree, kept)
    if len(tree) > MOST_SLOTS:
        raise TooMany(MOST_SLOTS)
    cycles = {("slot", slot): ("", [("hit" if slot in kept else "load", slot)]) for slot in range(len(tree))}
    for fork in tree.walk(last=True):
        left, right = tree.sides(fork)
        left_flags, left_run = cycles[left]
        right_flags, right_run = cycles[right]
        # The last line of a merged cycle is one of the side with the higher rate.
        if at_least(found[left].rate, found[right].rate):
            cycles[("fork", fork)] = (left_flags + "L" + right_flags, merged_cycle(left_run, right_run))
        else:
            cycles[("fork", fork)] = (left_flags + "R" + right_flags, merged_cycle(right_run, left_run))
    return cycles[tree.top]


def is_hold_cycle(tree, kept, cycle):
    """True if the value is a holding cycle."""
    loads, requests = hold_rate(tree, kept)
    if not isinstance(cycle, tuple) or len(cycle) != 2:
        return False
    flags, run = cycle
    if not is_flags(tree, flags) or not is_run(tree, run) or len(run) == 0:
        return False
    if first_wrong(tree, flags, run) is not None or end_pattern(tree, flags, run) != flags:
        return False
    loaded = [slot for kind, slot in run if kind == "load"]
    return not any([slot in kept for slot in loaded]) and len(loaded) * requests == loads * len(run)


def bound_table(tree, kept):
    """The bound table: tuples (fork, a, b, c, d) with the rate a / b and the slack c / d."""
    found = bounds(tree, kept)
    return [(fork,) + found[("fork", fork)].rate + found[("fork", fork)].slack for fork in tree.walk(last=True)]


def is_bound_table(tree, kept, table):
    """True if the value is the bound table."""
    return same_value(table, bound_table(tree, kept))
