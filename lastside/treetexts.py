"""Reading the text of a tree.

A node is a tuple: ("fork", fork) or ("slot", slot).
"""


def ends_fork(parts):
    """True if the last three parts are an open mark and two nodes."""
    return [part[0] == "open" for part in parts[-3:]] == [True, False, False]


def read_forks(text):
    """The forks of a text in postorder, or None if the text is not that of a tree.

    Each fork is a tuple (fork, (left, right), (first, last), (begin, end)) of its number, the nodes
    of its sides, its span, and the slice of the text in which it is written.
    """
    forks = []
    parts = []
    slots = 0
    for at, mark in enumerate(text):
        if mark == "(":
            parts.append(("open", slots, slots, slots, at))
        elif mark == ".":
            parts.append(("slot", slots, slots, slots, at))
            slots += 1
        elif mark == ")" and ends_fork(parts):
            right = parts.pop()
            left = parts.pop()
            begin = parts.pop()[4]
            # The fork of the slots k and k + 1 is the one whose left side ends with slot k.
            fork = left[3]
            span = (left[2], right[3])
            parts.append(("fork", fork, left[2], right[3], begin))
            forks.append((fork, (left[:2], right[:2]), span, (begin, at + 1)))
        else:
            return None
    if len(parts) != 1 or parts[0][0] == "open":
        return None
    return forks


def slot_depths(text):
    """The depths of the slots of the text of a tree, by slot."""
    depths = []
    depth = 0
    for mark in text:
        if mark == "(":
            depth += 1
        elif mark == ")":
            depth -= 1
        else:
            depths.append(depth)
    return depths
