"""The flags from which runs are valid, and what the slots of a run alone tell."""

from lastside.checks import check_pattern, check_run, check_slots
from lastside.errors import BrokenRun
from lastside.runs import first_wrong, wrong_lines

OPPOSITE = {"L": "R", "R": "L"}


def first_lines(tree, run):
    """The first line of the talk of each fork as a tuple (kind, side), where there is one."""
    found = {}
    for kind, slot in run:
        for fork, side in tree.path(slot):
            found.setdefault(fork, (kind, side))
    return found


def origins(tree, run):
    """The pattern of the flags from which the run is valid; BrokenRun if there are none."""
    wrong = first_wrong(tree, "?" * tree.forks, run)
    if wrong is not None:
        raise BrokenRun(wrong[0], wrong[1])
    found = first_lines(tree, run)
    first = [found.get(fork, ("hit", "L")) for fork in range(tree.forks)]
    return "".join([OPPOSITE[side] if kind == "load" else "?" for kind, side in first])


def origin_count(tree, run):
    """The number of the flags from which the run is valid."""
    if first_wrong(tree, "?" * tree.forks, run) is not None:
        return 0
    return 1 << origins(tree, run).count("?")


def loadable(tree, start, slots):
    """The indexes of the requests at these slots that can be loads, ascending."""
    check_pattern(tree, start)
    check_slots(tree, slots)
    # The side before a line does not depend on kinds, so all requests can be tried as loads at once.
    wrong = {index: True for index in wrong_lines(tree, start, [("load", slot) for slot in slots])}
    return [index for index in range(len(slots)) if index not in wrong]


def rows_of(tree, run):
    """The rows of the slots."""
    check_run(tree, run)
    return ["".join([kind[0] for kind, other in run if other == slot]) for slot in range(len(tree))]
