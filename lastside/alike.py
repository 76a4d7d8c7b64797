"""Equal behaviour of caches: signatures, groups, and how soon two caches can be told apart."""

from lastside.alone import slot_alone
from lastside.checks import check_flags
from lastside.errors import InvalidEntry


def signature(cache):
    """The text that is the same for two caches exactly if they behave alike for ever."""
    # For each node the smallest entry below it and its text.
    found = {("slot", slot): (entry, entry) for slot, entry in enumerate(cache.listed())}
    for fork in cache.tree.walk(last=True):
        left, right = cache.tree.sides(fork)
        shown, other = (left, right) if cache.flags[fork] == "L" else (right, left)
        sides = sorted([(found[shown][0], "!" + found[shown][1]), found[other]])
        found[("fork", fork)] = (sides[0][0], f"({sides[0][1]},{sides[1][1]})")
    return found[cache.tree.top][1]


def node_group(cache, node):
    """The sorted tuple of the entries below the node."""
    kind, number = node
    first, last = cache.tree.span(number) if kind == "fork" else (number, number)
    return tuple(sorted(cache.listed()[first:last + 1]))


def groups(cache):
    """The sorted list of the groups of the forks."""
    return sorted([node_group(cache, ("fork", fork)) for fork in range(cache.tree.forks)])


def alike(first, second):
    """True if the two caches behave alike for ever."""
    return signature(first) == signature(second)


def shown_groups(cache):
    """The group of the side that is shown, by the group of the fork."""
    found = {}
    for fork in range(cache.tree.forks):
        left, right = cache.tree.sides(fork)
        shown = left if cache.flags[fork] == "L" else right
        found[node_group(cache, ("fork", fork))] = node_group(cache, shown)
    return found


def depths_to_differing(first, second):
    """The depths of the deepest forks above the topmost differing forks of the first cache that show their sides."""
    shown = shown_groups(first)
    others = shown_groups(second)
    tree = first.tree
    # For each node above which no fork differs, its depth and that of the deepest fork above that shows its side.
    reached = {tree.top: (1, 0)}
    found = []
    for fork in tree.walk():
        group = node_group(first, ("fork", fork))
        if ("fork", fork) in reached:
            depth, deepest = reached[("fork", fork)]
            if shown[group] != others[group]:
                found.append(deepest)
            else:
                left, right = tree.sides(fork)
                reached[left] = (depth + 1, depth if first.flags[fork] == "L" else deepest)
                reached[right] = (depth + 1, depth if first.flags[fork] == "R" else deepest)
    return found


def parting_number(first, second):
    """The least number of requests that parts two caches with the same groups; None if they behave alike."""
    if groups(first) != groups(second):
        raise InvalidEntry(groups(second))
    # Caches of one slot have no groups that could tell their entries.
    if first.tree.forks == 0:
        return None if first.listed() == second.listed() else 1
    depths = depths_to_differing(first, second)
    return 2 + min(depths) if len(depths) > 0 else None


def queue_order(tree, flags):
    """The order of the queue keeper that behaves like the side keeper with the rule kta; None for an uneven tree."""
    check_flags(tree, flags)
    if not tree.is_even:
        return None
    return [slot_alone(tree, flags, index) for index in range(len(tree))]
