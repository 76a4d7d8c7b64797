"""Marks: flags in which `.` stands for a fork through which no request has passed so far."""

from lastside.checks import check_slot, is_made_of
from lastside.errors import InvalidFlags
from lastside.flags import turned
from lastside.trails import all_trails, needed_slots


def is_reached(marks, node):
    """True if the node is a slot or a fork with a flag."""
    kind, number = node
    return kind == "slot" or marks[number] != "."


def is_sound(tree, marks):
    """True if the value is sound marks of the tree."""
    if not is_made_of(marks, "LR.") or len(marks) != tree.forks:
        return False
    for fork, mark in enumerate(marks):
        left, right = tree.sides(fork)
        below = [node for node in (left, right) if node[0] == "fork"]
        if mark == "." and any([is_reached(marks, node) for node in below]):
            return False
        if mark != "." and not is_reached(marks, left if mark == "L" else right):
            return False
    return True


def check_marks(tree, marks):
    """Raises InvalidFlags for every value that is not sound marks of the tree."""
    if not is_sound(tree, marks):
        raise InvalidFlags(marks)


def marks_after(tree, marks, slot):
    """The marks after a hit at the slot."""
    check_marks(tree, marks)
    check_slot(tree, slot)
    return turned(tree, marks, slot)


def mark_count(tree):
    """The number of sound marks."""
    flagged = {("slot", slot): 1 for slot in range(len(tree))}
    for fork in tree.walk(last=True):
        left, right = tree.sides(fork)
        # The side that the flag does not show may be without a flag if it is a fork.
        left_any = flagged[left] + (1 if left[0] == "fork" else 0)
        right_any = flagged[right] + (1 if right[0] == "fork" else 0)
        flagged[("fork", fork)] = flagged[left] * right_any + flagged[right] * left_any
    return flagged[tree.top] + (1 if tree.forks > 0 else 0)


def least_marking(tree, start, end):
    """The least number of hits from the start to the end, or None if the end cannot be reached."""
    check_marks(tree, start)
    check_marks(tree, end)
    if any([mark == "." and before != "." for before, mark in zip(start, end)]):
        return None
    return len(needed_slots(all_trails(tree, end), start, end))
