"""Hidden trees: trees with numbered slots that are known only by their groups.

A tree is written as the sorted list of its groups: for each fork the ascending tuple of the slots below it.
"""

from lastside.checks import check_lines, check_number, is_whole
from lastside.errors import InvalidItem
from lastside.trees import Tree

MOST_HIDDEN = 6
MOST_COUNTED = 60


def check_hidden(slots):
    """Raises InvalidNumber for every value that is not a number of hidden slots."""
    check_number(slots, 1, MOST_HIDDEN)


def tree_total(slots):
    """The number of trees with so many slots."""
    check_number(slots, 1, MOST_COUNTED)
    total = 1
    for many in range(2, slots + 1):
        total = total * (2 * many - 3)
    return total


def with_next_slot(counts, many):
    """The numbers of trees with one slot more, from those with so many, by the rank and the depth of the victim."""
    # The new slot was used before all others; it makes itself the victim on the path of the victim alone.
    depths = [sum([row[depth] for row in counts]) for depth in range(many)]
    added = [0] + [sum(depths[depth:]) for depth in range(many)]
    return [[row[depth] * (2 * many - 2 - depth) for depth in range(many)] + [0] for row in counts] + [added]


def rank_counts(slots):
    """For each rank the number of trees in which the slot with this rank is the victim."""
    check_number(slots, 1, MOST_COUNTED)
    counts = [[1]]
    for many in range(1, slots):
        counts = with_next_slot(counts, many)
    return [sum(row) for row in counts]


def grown_groups(groups, place, slot):
    """The groups of a tree to which a slot with a higher number is added directly above a node."""
    found = [place + (slot,)]
    for group in groups:
        # Every group that has the node below it, and is not that of the node itself, has the new slot too.
        above = place != group and all([other in group for other in place])
        found.append(group + (slot,) if above else group)
    return sorted(found)


def all_groups(slots):
    """All trees with so many slots, ascending."""
    trees = [[]]
    for slot in range(1, slots):
        trees = [grown_groups(groups, place, slot) for groups in trees
                 for place in groups + [(lower,) for lower in range(slot)]]
    return sorted(trees)


def each_groups(slots):
    """All trees with so many slots, written as lists of groups, ascending."""
    check_hidden(slots)
    for groups in all_groups(slots):
        yield groups


def sides_by_group(groups):
    """The tuples of slots of the two sides of each fork, by its group; the first one has the lowest slot."""
    found = {}
    for group in groups:
        # The groups with one certain slot lie in each other, so the longest one below this group is a side of it.
        lower = [other for other in groups if group[0] in other and len(other) < len(group)]
        side = max(lower, key=len, default=group[:1])
        found[group] = (side, tuple([slot for slot in group if slot not in side]))
    return found


def talk_end(run, sides):
    """The side on which the talk of a fork ends, an index; -1 for an empty talk, None if a load in it is wrong."""
    before = -1
    for kind, slot in run:
        for side in (0, 1):
            if slot in sides[side]:
                if kind == "load" and before == side:
                    return None
                before = side
                break
    return before


def talk_ends(trees, run):
    """The ends of the talks of all forks of some trees, by the sides of the fork."""
    found = {}
    for groups in trees:
        for sides in list(sides_by_group(groups).values()):
            if sides not in found:
                found[sides] = talk_end(run, sides)
    return found


def fitting_with_ends(slots, run):
    """The trees that fit the run, and the ends of the talks of their forks; the arguments are checked first."""
    check_hidden(slots)
    check_lines(run, slots - 1)
    trees = all_groups(slots)
    ends = talk_ends(trees, run)
    fit = [groups for groups in trees
           if all([ends[sides] is not None for sides in list(sides_by_group(groups).values())])]
    return (fit, ends)


def fitting(slots, run):
    """The trees that fit the run, ascending."""
    trees, _ = fitting_with_ends(slots, run)
    return trees


def sure_groups(slots, run):
    """The groups that occur in all trees that fit the run, sorted; None if no tree fits."""
    trees = fitting(slots, run)
    if len(trees) == 0:
        return None
    return [group for group in trees[0] if all([group in groups for groups in trees])]


def victims_of(groups, slots, ends):
    """The slots that can be the victim in the tree, with flags that are known as far as the talks tell them."""
    sides_of = sides_by_group(groups)
    victims = []
    waiting = [tuple(range(slots))]
    while len(waiting) > 0:
        node = waiting.pop()
        if len(node) == 1:
            victims.append(node[0])
        else:
            sides = sides_of[node]
            waiting.extend([side for index, side in enumerate(sides) if index != ends[sides]])
    return victims


def next_victims(slots, run):
    """The slots that are the victim behind the run in some fitting tree, ascending."""
    trees, ends = fitting_with_ends(slots, run)
    found = {victim: True for groups in trees for victim in victims_of(groups, slots, ends)}
    return sorted(list(found))


def is_group_list(groups):
    """True if the value is a sorted list of tuples of integers, all of them ascending and without duplicates."""
    if not isinstance(groups, list) or not all([isinstance(group, tuple) for group in groups]):
        return False
    if not all([is_whole(label) for group in groups for label in group]):
        return False
    rows = groups + [groups]
    return all([part < following for row in rows for part, following in zip(row, row[1:])])


def arranged(groups, labels):
    """The tree with these groups of labels, and the labels in its slots from left to right."""
    if len(labels) > Tree.MOST or not is_group_list(groups) or len(groups) != len(labels) - 1:
        raise InvalidItem(-1)
    # The largest nodes so far as tuples (text, labels in the slots), each with its smallest label as the key.
    nodes = {label: (".", [label]) for label in labels}
    top_of = {label: label for label in labels}
    for group in sorted(groups, key=len):
        if not all([label in top_of for label in group]):
            raise InvalidItem(-1)
        tops = sorted(list({top_of[label]: True for label in group}))
        if len(tops) != 2 or len(nodes[tops[0]][1]) + len(nodes[tops[1]][1]) != len(group):
            raise InvalidItem(-1)
        left, right = [nodes[top] for top in tops]
        nodes[tops[0]] = (f"({left[0]}{right[0]})", left[1] + right[1])
        for label in right[1]:
            top_of[label] = tops[0]
    text, slots = nodes[labels[0]]
    return (Tree(text), list(slots))
