"""Flags and patterns: how requests turn them, and which slot is the victim."""

from lastside.checks import SIDES, check_flags, check_pattern, check_slot, check_slots

MIRRORED_SIDES = {"L": "R", "R": "L", "?": "?"}


def turned(tree, flags, slot):
    """The flags after a request at the slot; nothing is checked."""
    sides = dict(tree.path(slot))
    return "".join([sides.get(fork, flag) for fork, flag in enumerate(flags)])


def flags_after(tree, flags, slot):
    """The flags, or the pattern, after a request at the slot."""
    check_pattern(tree, flags)
    check_slot(tree, slot)
    return turned(tree, flags, slot)


def victim_of(tree, flags):
    """The only slot that no fork blocks."""
    check_flags(tree, flags)
    kind, number = tree.top
    while kind == "fork":
        left, right = tree.sides(number)
        kind, number = right if flags[number] == "L" else left
    return number


def blocking(tree, flags, slot):
    """The forks that block the slot, from the root down."""
    check_flags(tree, flags)
    check_slot(tree, slot)
    return [fork for fork, side in tree.path(slot) if flags[fork] == side]


def fits(flags, pattern):
    """True if the flags agree with the pattern wherever it has no `?`."""
    return all([known in ("?", flag) for flag, known in zip(flags, pattern)])


def mirrored_flags(pattern):
    """The flags of the mirrored tree."""
    return "".join([MIRRORED_SIDES[flag] for flag in pattern[::-1]])


def flags_of_number(places, number):
    """The flags of so many forks with this number, counted from 0 in ascending order."""
    # Flags in ascending order are the numbers from 0 in binary, with L for 0 and R for 1.
    return "".join([SIDES[number >> (places - 1 - fork) & 1] for fork in range(places)])


def each_flags(tree):
    """All flags of the tree, ascending as texts."""
    places = tree.forks
    for number in range(1 << places):
        yield flags_of_number(places, number)


def all_flags(tree):
    """The list of all flags of the tree, ascending as texts."""
    # Operators need the flags too, and what they call must not yield, so this does not go over `each_flags`.
    places = tree.forks
    return [flags_of_number(places, number) for number in range(1 << places)]


def all_after(tree, flags, slots):
    """The flags after requests at these slots, in order."""
    check_flags(tree, flags)
    check_slots(tree, slots)
    for slot in slots:
        flags = turned(tree, flags, slot)
    return flags
