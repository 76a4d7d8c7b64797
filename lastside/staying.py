"""Staying and leaving: how soon entries can be replaced, and how many of them settle."""

from lastside.caches import Cache
from lastside.checks import check_flags, check_number, check_slot
from lastside.flags import all_after


def first_slot(tree, node):
    """The lowest-numbered slot of a node."""
    kind, number = node
    return tree.span(number)[0] if kind == "fork" else number


def other_side(tree, fork, side):
    """The node on the other side of the fork."""
    left, right = tree.sides(fork)
    return right if side == "L" else left


def blocking_depth(tree, flags, slot):
    """The depth of the deepest fork that blocks the slot, 0 if there is none; nothing is checked."""
    depths = [depth for depth, (fork, side) in enumerate(tree.path(slot), start=1) if flags[fork] == side]
    return max(depths, default=0)


def eviction_number(tree, flags, slot):
    """The least number of requests after which the entry of the slot can have been replaced."""
    check_flags(tree, flags)
    check_slot(tree, slot)
    return 1 + blocking_depth(tree, flags, slot)


def eviction_numbers(tree, flags):
    """The eviction numbers by slot."""
    check_flags(tree, flags)
    return [1 + blocking_depth(tree, flags, slot) for slot in range(len(tree))]


def eviction_plan(tree, flags, slot):
    """A shortest run that replaces the entry of the slot."""
    check_flags(tree, flags)
    check_slot(tree, slot)
    path = tree.path(slot)[:blocking_depth(tree, flags, slot)]
    return [("hit", first_slot(tree, other_side(tree, fork, side))) for fork, side in path[::-1]] + [("load", slot)]


def evictable(tree, flags, count):
    """The slots whose entry can have been replaced after so many requests, ascending."""
    check_flags(tree, flags)
    check_number(count, 0, None)
    return [slot for slot, number in enumerate(eviction_numbers(tree, flags)) if number <= count]


def settling_size(tree):
    """The number of entries that are loaded at most once each if no others are asked for."""
    return tree.least_depth + 1


def thrashing(tree):
    """A cache, and requests for one entry more than settle that cause two loads each time they are served."""
    least = tree.least_depth
    slot = [other for other in range(len(tree)) if tree.depth(other) == least][0]
    helpers = [first_slot(tree, other_side(tree, fork, side)) for fork, side in tree.path(slot)[::-1]]
    fresh = Cache.fresh(tree)
    entries = fresh.listed()
    asked = [entries[helper] for helper in helpers]
    flags = all_after(tree, fresh.flags, helpers + [slot])
    return Cache(tree, flags, entries), asked + ["x"] + asked + [entries[slot]]
