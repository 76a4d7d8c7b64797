"""Faults: with how few wrong, false and lost requests a trace can be explained."""

from lastside.blame import Blame
from lastside.checks import is_flags, is_number
from lastside.sightings import REQUESTS, check_trace, flags_behind, says


def fewest_faults(tree, items, *, wrong=True, false=True, lost=True):
    """The least number of faults of a fault story, or None if there is none."""
    check_trace(tree, items)
    rows = Blame(tree, items, wrong, false, lost).rows()
    return min(list(rows[-1].values()), default=None)


def fault_story(tree, items, *, wrong=True, false=True, lost=True):
    """A fault story with the least number of faults, or None if there is none."""
    check_trace(tree, items)
    return Blame(tree, items, wrong, false, lost).story()


def is_step(value):
    """True if the value has the form of a step, whatever its lines are."""
    if not isinstance(value, tuple) or len(value) != 3:
        return False
    return value[0] in ("kept", "wrong", "false", "lost") and is_number(value[1], 0, None)


def step_fits(items, at, step, flags):
    """True if the step can stand next, with so many items behind it, and says what is true from the flags.

    Its lines are a run that is valid from the flags.
    """
    word, index, lines = step
    if index != at:
        return False
    if word == "lost":
        return len(lines) == 1
    if index == len(items):
        return False
    if word == "kept":
        return says(items[index], flags, lines)
    return items[index][0] in REQUESTS and len(lines) == (1 if word == "wrong" else 0)


def count_faults(tree, items, story):
    """The number of faults of a fault story; None for every value that is not a fault story of this trace."""
    check_trace(tree, items)
    if not isinstance(story, tuple) or len(story) != 2:
        return None
    flags, steps = story
    if not is_flags(tree, flags) or not isinstance(steps, list) or not all([is_step(step) for step in steps]):
        return None
    at = 0
    for step in steps:
        after = flags_behind(tree, flags, step[2])
        if after is None or not step_fits(items, at, step, flags):
            return None
        flags = after
        if step[0] != "lost":
            at += 1
    if at < len(items):
        return None
    return len([step for step in steps if step[0] != "kept"])


def fault_table(tree, items, *, wrong=True, false=True, lost=True):
    """The fault table: for each moment the sorted list of tuples (flags, least number of faults)."""
    check_trace(tree, items)
    return [sorted(list(costs.items())) for costs in Blame(tree, items, wrong, false, lost).rows()]


def is_cost_list(tree, value):
    """True if the value is a list of tuples (flags, cost), ascending by their flags."""
    if not isinstance(value, list) or not all([isinstance(pair, tuple) and len(pair) == 2 for pair in value]):
        return False
    if not all([is_flags(tree, flags) and is_number(cost, 0, None) for flags, cost in value]):
        return False
    return all([pair[0] < following[0] for pair, following in zip(value, value[1:])])


def at_most(costs, flags, cost):
    """True if these costs have the flags with at most this cost."""
    return flags in costs and costs[flags] <= cost


def is_closed_table(tree, items, table, *, wrong=True, false=True, lost=True):
    """True if the value is a closed table."""
    check_trace(tree, items)
    if not isinstance(table, list) or len(table) != len(items) + 1:
        return False
    if not all([is_cost_list(tree, pairs) for pairs in table]):
        return False
    blame = Blame(tree, items, wrong, false, lost)
    rows = [dict(pairs) for pairs in table]
    if rows[0] != {flags: 0 for flags in blame.begins()}:
        return False
    for row in rows:
        for flags, cost in row.items():
            if not all([at_most(row, after, cost + 1) for after in blame.lost_requests(flags)]):
                return False
    for index in range(len(items)):
        for flags, cost in rows[index].items():
            ways = blame.takings(index, flags)
            if not all([at_most(rows[index + 1], after, cost + faults) for word, faults, after in ways]):
                return False
    return True
