"""Weaving rows into one run: the number of weavings, and each of them by its rank."""

from lastside.checks import check_end, check_number, check_pattern, check_rows, check_run
from lastside.errors import BrokenRun, InvalidNumber, TooMany
from lastside.looms import new_loom
from lastside.origins import rows_of
from lastside.runs import play

MOST_LINES = 60


def check_letters(rows):
    """Raises TooMany for rows with too many letters together."""
    if sum([len(row) for row in rows]) > MOST_LINES:
        raise TooMany(MOST_LINES)


def checked_loom(tree, start, rows, end):
    """The loom of arguments that are checked first."""
    check_pattern(tree, start)
    check_rows(tree, rows)
    check_end(tree, end)
    check_letters(rows)
    return new_loom(tree, start, rows, end)


def weaving_count(tree, start, rows, *, end=None):
    """The number of weavings of the rows from the start to the end."""
    return checked_loom(tree, start, rows, end).total()


def ranked_run(loom, rank):
    """The weaving with this rank among those of the loom."""
    run = []
    slots = loom.first_slots()
    while len(slots) > 0:
        number = 0
        while rank >= loom.begun_at(slots[number]):
            rank = rank - loom.begun_at(slots[number])
            number += 1
        run.append(loom.line_at(slots[number]))
        loom = loom.behind(slots[number])
        slots = loom.first_slots()
    return run


def first_weaving(tree, start, rows, *, end=None):
    """The weaving with rank 0, or None if there is none."""
    loom = checked_loom(tree, start, rows, end)
    if loom.total() == 0:
        return None
    return ranked_run(loom, 0)


def weaving_at(tree, start, rows, rank, *, end=None):
    """The weaving with this rank."""
    check_pattern(tree, start)
    check_rows(tree, rows)
    check_number(rank, 0, None)
    loom = checked_loom(tree, start, rows, end)
    if rank >= loom.total():
        raise InvalidNumber(rank)
    return ranked_run(loom, rank)


def check_ends(tree, start, run, end):
    """Raises BrokenRun for a run that is not valid from the start, or whose flags do not fit the end."""
    behind = play(tree, start, run)
    for fork, side in enumerate(behind):
        if end is not None and end[fork] != "?" and side not in ("?", end[fork]):
            raise BrokenRun(len(run), fork)


def weaving_rank(tree, start, run, *, end=None):
    """The rank of the run among the weavings of its own rows."""
    check_pattern(tree, start)
    check_run(tree, run)
    check_end(tree, end)
    if len(run) > MOST_LINES:
        raise TooMany(MOST_LINES)
    check_ends(tree, start, run, end)
    loom = new_loom(tree, start, rows_of(tree, run), end)
    rank = 0
    for kind, slot in run:
        rank = rank + sum([loom.begun_at(lower) for lower in range(slot)])
        loom = loom.behind(slot)
    return rank


def each_weaving(tree, start, rows, *, end=None):
    """All weavings in order."""
    loom = checked_loom(tree, start, rows, end)
    if loom.total() == 0:
        return
    # What is still to be followed, the next one last: a loom and the lines that led to it.
    waiting = [(loom, [], None)]
    while len(waiting) > 0:
        loom, run, slot = waiting.pop()
        if slot is not None:
            run = run + [loom.line_at(slot)]
            loom = loom.behind(slot)
        slots = loom.first_slots()
        if len(slots) == 0:
            yield run
        waiting.extend([(loom, run, other) for other in slots[::-1]])
