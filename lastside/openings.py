"""Openings: how the woven rows below each fork can begin, and which fork is an obstacle."""

from lastside.checks import SIDES
from lastside.looms import OPENINGS
from lastside.values import same_value
from lastside.weaving import checked_loom, weaving_count


def openings(tree, start, rows, *, end=None):
    """The opening table."""
    loom = checked_loom(tree, start, rows, end)
    table = []
    for fork in tree.walk(last=True):
        ways = loom.part_of(fork).ways
        text = "".join([opening for opening in OPENINGS if ways[opening] > 0])
        table.append((fork, text))
        if text == "":
            return table
    return table


def is_openings(tree, start, rows, table, *, end=None):
    """True if the table is the opening table."""
    return same_value(table, openings(tree, start, rows, end=end))


def with_side(pattern, fork, side):
    """The pattern with this character at the fork."""
    return pattern[:fork] + side + pattern[fork + 1:]


def told(sides):
    """What the possible sides of a fork tell: the only one, or `?`."""
    return sides[0] if len(sides) == 1 else "?"


def told_start(tree, rows):
    """The pattern of what the rows tell of the flags from which their weavings are valid; None without one."""
    unknown = "?" * tree.forks
    if weaving_count(tree, unknown, rows) == 0:
        return None
    text = ""
    for fork in range(tree.forks):
        sides = [side for side in SIDES if weaving_count(tree, with_side(unknown, fork, side), rows) > 0]
        text += told(sides)
    return text


def told_end(tree, start, rows):
    """The pattern of what the rows tell of the flags to which their weavings lead; None without a weaving."""
    if weaving_count(tree, start, rows) == 0:
        return None
    unknown = "?" * tree.forks
    text = ""
    for fork in range(tree.forks):
        sides = [side for side in SIDES if weaving_count(tree, start, rows, end=with_side(unknown, fork, side)) > 0]
        text += told(sides)
    return text
