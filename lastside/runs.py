"""Runs: which of their lines are wrong, and where they lead."""

from lastside.checks import check_fork, check_pattern, check_run
from lastside.errors import BrokenRun


def talk(tree, run, fork):
    """The lines that pass through the fork: tuples (index, side, kind)."""
    check_run(tree, run)
    check_fork(tree, fork)
    lines = []
    for index, (kind, slot) in enumerate(run):
        lines.extend([(index, side, kind) for passed, side in tree.path(slot) if passed == fork])
    return lines


def wrong_places(tree, start, run):
    """The wrong lines as tuples (index, fork nearest to the root, index of the line before it there)."""
    before = [(side, -1) for side in start]
    places = []
    for index, (kind, slot) in enumerate(run):
        path = tree.path(slot)
        wrong = [fork for fork, side in path if kind == "load" and before[fork][0] == side]
        if len(wrong) > 0:
            places.append((index, wrong[0], before[wrong[0]][1]))
        for fork, side in path:
            before[fork] = (side, index)
    return places


def first_wrong(tree, start, run):
    """None for a run that is valid from the pattern, otherwise (index, fork, index before) of its first wrong line."""
    check_pattern(tree, start)
    check_run(tree, run)
    places = wrong_places(tree, start, run)
    return places[0] if len(places) > 0 else None


def wrong_lines(tree, start, run):
    """The indexes of all wrong lines, ascending."""
    check_pattern(tree, start)
    check_run(tree, run)
    return [index for index, fork, before in wrong_places(tree, start, run)]


def mended(tree, start, run):
    """The run with hits in the place of the wrong loads."""
    wrong = {index: True for index in wrong_lines(tree, start, run)}
    return [("hit", slot) if index in wrong else (kind, slot) for index, (kind, slot) in enumerate(run)]


def end_pattern(tree, start, run):
    """The pattern behind the run."""
    check_pattern(tree, start)
    check_run(tree, run)
    flags = list(start)
    for kind, slot in run:
        for fork, side in tree.path(slot):
            flags[fork] = side
    return "".join(flags)


def play(tree, start, run):
    """The pattern behind a valid run; BrokenRun for another one."""
    wrong = first_wrong(tree, start, run)
    if wrong is not None:
        raise BrokenRun(wrong[0], wrong[1])
    return end_pattern(tree, start, run)


def restricted(tree, run, fork):
    """The lines below the fork, with the slots as they are numbered in its subtree."""
    check_run(tree, run)
    first, last = tree.span(fork)
    return [(kind, slot - first) for kind, slot in run if first <= slot <= last]


def collapsed_slot(span, slot):
    """The number of the slot in a tree in which one slot replaces those of the span."""
    first, last = span
    if slot <= first:
        return slot
    return slot - (min(slot, last) - first)


def collapsed_run(tree, run, fork):
    """All lines, with the slots as they are numbered in the tree that is collapsed at the fork."""
    check_run(tree, run)
    span = tree.span(fork)
    return [(kind, collapsed_slot(span, slot)) for kind, slot in run]
