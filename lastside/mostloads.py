"""Most loads: how many loads, or how many renewed slots, so many requests can have while some slots are kept.

The runs below a node are told by the letter of their first line, `h`, `l` or `-` for no line, and by their
numbers of lines and loads.
"""

from lastside.checks import check_chosen, check_number, check_pattern
from lastside.looms import LETTERS
from lastside.transfer import Need, fork_need, slot_need
from lastside.weaving import MOST_LINES, first_weaving

# Runs that begin with a hit have one block more than loads; those that begin with a load have one load at least.
HITS_FIRST = {"h": 1, "l": 0, "-": 0}
LOADS_FIRST = {"h": 0, "l": 1, "-": 0}


def check_kept(tree, start, kept):
    """Raises the error of the first argument that is not right."""
    check_pattern(tree, start)
    check_chosen(tree, kept)


def slot_most(free, length):
    """The greatest numbers of loads at a slot, by the first letter and the number of lines; None without a run."""
    if not free:
        return {"h": [None] + [0] * length, "l": [None] * (length + 1)}
    return {"h": [None] + list(range(length)), "l": [None] + list(range(1, length + 1))}


def splits(side, part, letter, other, total):
    """How so many lines of a fork are split between a side that begins with the letter and the other side.

    A list of tuples (side that begins, its lines, its loads, first letter of the other side, its loads) with
    the greatest numbers of loads.
    """
    found = []
    if part[letter][total] is not None:
        found.append((side, total, LOADS_FIRST[letter], "-", 0))
    for opening in LETTERS:
        for lines in range(1, total):
            own = part[letter][lines]
            others = other[opening][total - lines]
            if own is None or others is None:
                continue
            # No side has more blocks than the other one has lines, but one more if the talk also ends on it.
            blocks = total - lines - HITS_FIRST[letter]
            other_blocks = lines - HITS_FIRST[opening]
            found.append((side, lines, min(own, blocks), opening, min(others, other_blocks)))
            if lines > 1:
                found.append((side, lines, min(own, blocks + 1), opening, min(others, other_blocks - 1)))
    return found


def fork_splits(left, right, start, letter, total):
    """The splits of so many lines of a fork that begin with the letter."""
    found = []
    for side, part, other in (("L", left, right), ("R", right, left)):
        if letter == "h" or start != side:
            found.extend(splits(side, part, letter, other, total))
    return found


def fork_most(left, right, start, length):
    """The greatest numbers of loads below a fork, by the first letter and the number of lines."""
    found = {letter: [None] for letter in LETTERS}
    for letter in LETTERS:
        for total in range(1, length + 1):
            rows = fork_splits(left, right, start, letter, total)
            found[letter].append(max([own + others for side, lines, own, opening, others in rows], default=None))
    return found


def most_by_node(tree, start, kept, length):
    """The greatest numbers of loads below each node, by node; the arguments are checked first."""
    check_kept(tree, start, kept)
    check_number(length, 0, MOST_LINES)
    found = {("slot", slot): slot_most(slot not in kept, length) for slot in range(len(tree))}
    for fork in tree.walk(last=True):
        left, right = [found[node] for node in tree.sides(fork)]
        found[("fork", fork)] = fork_most(left, right, start[fork], length)
    return found


def best_opening(most, length):
    """The greatest number of loads in a run of so many lines, and the first letter of such a run."""
    if length == 0:
        return (0, "-")
    return max([(most[letter][length], letter) for letter in LETTERS if most[letter][length] is not None])


def most_loads(tree, start, kept, length):
    """The greatest number of loads in a valid run of so many requests that loads no kept slot."""
    loads, _ = best_opening(most_by_node(tree, start, kept, length)[tree.top], length)
    return loads


def split_for(rows, letter, loads):
    """The first of these splits with which so many loads are possible, with loads that add up to this number."""
    for side, lines, own, opening, others in rows:
        if LOADS_FIRST[letter] + LOADS_FIRST[opening] <= loads <= own + others:
            rest = min(others, loads - LOADS_FIRST[letter])
            return (side, lines, loads - rest, opening, rest)
    return None


def written_row(letter, lines, loads):
    """A row with this first letter and these numbers of lines and loads."""
    hits = lines - loads
    first = HITS_FIRST[letter]
    return "h" * first + "l" * loads + "h" * (hits - first)


def most_loads_run(tree, start, kept, length):
    """A valid run of so many requests with the greatest number of loads that loads no kept slot."""
    found = most_by_node(tree, start, kept, length)
    most, first = best_opening(found[tree.top], length)
    rows = [""] * len(tree)
    waiting = [(tree.top, first, length, most)]
    while len(waiting) > 0:
        (kind, number), letter, total, loads = waiting.pop()
        if kind == "slot":
            rows[number] = written_row(letter, total, loads)
        elif total > 0:
            left, right = tree.sides(number)
            choices = fork_splits(found[left], found[right], start[number], letter, total)
            side, lines, own, opening, others = split_for(choices, letter, loads)
            begins, follows = (left, right) if side == "L" else (right, left)
            waiting.append((begins, letter, lines, own))
            waiting.append((follows, opening, total - lines, others))
    return first_weaving(tree, start, rows)


def least_need(needs):
    """The least of some needs for as many renewed slots."""
    by_load = [need.by_load for need in needs if need.by_load is not None]
    by_hit = [need.by_hit for need in needs if need.by_hit is not None]
    empty = any([need.empty for need in needs])
    return Need(needs[0].renewed, min(by_load, default=None), min(by_hit, default=None), empty)


def needs_by_count(tree, start, kept):
    """The list of the least needs of the tree for each number of renewed slots, none of them kept."""
    found = {("slot", slot): [slot_need(False)] for slot in range(len(tree))}
    for slot in range(len(tree)):
        if slot not in kept:
            found[("slot", slot)].append(slot_need(True))
    for fork in tree.walk(last=True):
        left, right = [found[node] for node in tree.sides(fork)]
        rows = [[] for _ in range(len(left) + len(right) - 1)]
        for one in left:
            for other in right:
                rows[one.renewed + other.renewed].append(fork_need(one, other, start[fork], "?"))
        found[("fork", fork)] = [least_need(row) for row in rows]
    return found[tree.top]


def fewest_to_renew(tree, start, kept, count):
    """The least number of requests in which so many different slots that are not kept can be loaded."""
    check_kept(tree, start, kept)
    check_number(count, 0, len(tree) - len(kept))
    return needs_by_count(tree, start, kept)[count].shortest()


def most_renewed(tree, start, kept, length):
    """The greatest number of different slots, none of them kept, that so many requests can load."""
    check_kept(tree, start, kept)
    check_number(length, 0, MOST_LINES)
    return max([need.renewed for need in needs_by_count(tree, start, kept) if need.shortest() <= length])
