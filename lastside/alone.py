"""Loads alone: where they go if all requests are loads.

Every fork sends the loads that reach it to its two sides in turn, so all is found without following them.
"""

from lastside.checks import check_flags, check_number


def check_count(count):
    """Raises InvalidNumber for every value that is not a number of loads that is not too great."""
    check_number(count, 0, 10 ** 40)


def turn_order(tree, flags, fork):
    """The sides of the fork: first the one that its flag does not show, to which its first load goes."""
    left, right = tree.sides(fork)
    return (right, left) if flags[fork] == "L" else (left, right)


def loads_by_node(tree, flags, count):
    """The numbers of loads that reach each node, by node; the arguments are checked first."""
    check_flags(tree, flags)
    check_count(count)
    found = {tree.top: count}
    for fork in tree.walk():
        first, second = turn_order(tree, flags, fork)
        many = found[("fork", fork)]
        found[first] = (many + 1) // 2
        found[second] = many // 2
    return found


def loads_alone(tree, flags, count):
    """The numbers of loads of the slots after so many loads."""
    found = loads_by_node(tree, flags, count)
    return [found[("slot", slot)] for slot in range(len(tree))]


def flags_alone(tree, flags, count):
    """The flags after so many loads."""
    found = loads_by_node(tree, flags, count)
    # Each load turns the flag of every fork that it passes.
    turns = [found[("fork", fork)] % 2 == 1 for fork in range(tree.forks)]
    return "".join([("R" if flag == "L" else "L") if turn else flag for flag, turn in zip(flags, turns)])


def slot_alone(tree, flags, index):
    """The slot to which the load with this index goes."""
    check_flags(tree, flags)
    check_count(index)
    kind, number = tree.top
    while kind == "fork":
        kind, number = turn_order(tree, flags, number)[index % 2]
        index = index // 2
    return number


def met_counts(first, second, differs):
    """The counts of loads at a fork at which both sides, in turn order, and its own flag are right, or None.

    Counts are a tuple (remainder, period); `differs` is 1 if the flag has to turn, otherwise 0.
    """
    if first is None or second is None:
        return None
    # Of 2 * n + differs loads the first side receives n + differs and the second side n.
    wanted = [((first[0] - differs) % first[1], first[1]), second]
    low, high = wanted if first[1] <= second[1] else wanted[::-1]
    if high[0] % low[1] != low[0]:
        return None
    return (2 * high[0] + differs, 2 * high[1])


def alone_count(tree, start, end):
    """The numbers of loads that lead from the start to the end: None or a tuple (remainder, period)."""
    check_flags(tree, start)
    check_flags(tree, end)
    found = {("slot", slot): (0, 1) for slot in range(len(tree))}
    for fork in tree.walk(last=True):
        first, second = turn_order(tree, start, fork)
        differs = 1 if start[fork] != end[fork] else 0
        found[("fork", fork)] = met_counts(found[first], found[second], differs)
    return found[tree.top]
