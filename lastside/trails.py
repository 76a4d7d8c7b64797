"""Trails: the ways on which flags lead to the slots, and the slots to which hits must go.

The trails of marks are followed only through the forks that have a flag; other forks show `.`.
"""

from lastside.checks import check_flags, check_number, check_pattern, check_slot


def trail_from(tree, flags, node):
    """The slot to which the flags lead from the node, and the forks on the way."""
    forks = []
    kind, number = node
    while kind == "fork":
        forks.append(number)
        left, right = tree.sides(number)
        kind, number = left if flags[number] == "L" else right
    return number, tuple(forks)


def all_trails(tree, flags):
    """The trails of flags or of sound marks, by slot ascending; nothing is checked."""
    begins = [(tree.top, None)]
    for fork in range(tree.forks):
        left, right = tree.sides(fork)
        if flags[fork] != ".":
            begins.append((right if flags[fork] == "L" else left, fork))
    found = []
    for node, hang in begins:
        kind, number = node
        if kind == "slot" or flags[number] != ".":
            slot, forks = trail_from(tree, flags, node)
            found.append((slot, forks, hang))
    # No slot is the end of two trails, so the slots alone decide the order.
    return sorted(found)


def trails(tree, flags):
    """The trails of the flags: tuples (slot, forks, hang), by slot ascending."""
    check_flags(tree, flags)
    return all_trails(tree, flags)


def holders(found):
    """The slot of the trail on which each of these trails hangs, or None, by the slot of the trail."""
    slot_of_fork = {fork: slot for slot, forks, hang in found for fork in forks}
    return {slot: None if hang is None else slot_of_fork[hang] for slot, forks, hang in found}


def hangs_on(tree, flags, slot):
    """The slot of the trail on which the trail of this slot hangs, or None."""
    check_flags(tree, flags)
    check_slot(tree, slot)
    return holders(all_trails(tree, flags))[slot]


def with_holders(slots, held_by):
    """These slots and those of all trails on which their trails hang, directly or indirectly, ascending."""
    found = set()
    for slot in slots:
        while slot is not None and slot not in found:
            found.add(slot)
            slot = held_by[slot]
    return sorted(found)


def needed_slots(found, start, end):
    """The slots of the needed ones among the trails of `end`, ascending; nothing is checked."""
    differing = [slot for slot, forks, hang in found if any([start[fork] != end[fork] for fork in forks])]
    return with_holders(differing, holders(found))


def needed(tree, start, end):
    """The slots of the needed trails, ascending."""
    check_pattern(tree, start)
    check_flags(tree, end)
    return needed_slots(all_trails(tree, end), start, end)


def least_hits(tree, start, end):
    """The least number of hits that lead from every choice of flags that fits the start to the end."""
    return len(needed(tree, start, end))


def least_by_slot(tree, start, end):
    """The least numbers of requests from the start to the end with one at the slot, by slot; nothing is checked."""
    found = all_trails(tree, end)
    held_by = holders(found)
    must = needed_slots(found, start, end)
    return [len(with_holders(must + [slot], held_by)) for slot in range(len(tree))]


def least_hits_with(tree, start, end, slot):
    """The least number of requests from the start to the end of which one or more go to the slot."""
    check_flags(tree, start)
    check_flags(tree, end)
    check_slot(tree, slot)
    return least_by_slot(tree, start, end)[slot]


def surely_used(tree, start, end):
    """The slots that were surely used between the start and the end, ascending."""
    check_flags(tree, start)
    return needed(tree, start, end)


def may_be_used(tree, start, end, length):
    """The slots that may have been used in exactly so many requests from the start to the end, ascending."""
    check_flags(tree, start)
    check_flags(tree, end)
    check_number(length, 0, None)
    return [slot for slot, least in enumerate(least_by_slot(tree, start, end)) if least <= length]
