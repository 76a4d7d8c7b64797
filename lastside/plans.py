"""Plans: the transfers of one length, and each of them by its rank."""

from lastside.checks import check_chosen, check_number, check_pattern, check_run
from lastside.errors import BrokenRun, InvalidNumber, TooMany
from lastside.planning import plan_loom
from lastside.runs import play
from lastside.transfer import least_requests
from lastside.weaving import MOST_LINES, check_ends

KIND_OF = {"h": "hit", "l": "load"}


def check_states(tree, start, end, renewed):
    """Raises the error of the first argument that is not right."""
    check_pattern(tree, start)
    check_pattern(tree, end)
    check_chosen(tree, renewed)


def plan_count(tree, start, end, renewed, length):
    """The number of transfers with so many requests."""
    check_states(tree, start, end, renewed)
    check_number(length, 0, MOST_LINES)
    return plan_loom(tree, start, end, renewed, length).total()


def ranked_plan(loom, length, rank):
    """The transfer with this rank among those of a loom for so many lines."""
    run = []
    for _ in range(length):
        hits = loom.begun_with("h")
        letter = "h" if rank < hits else "l"
        slot, rank = loom.slot_at(letter, rank if letter == "h" else rank - hits)
        run.append((KIND_OF[letter], slot))
        loom = loom.behind(letter, slot)
    return run


def plan_at(tree, start, end, renewed, length, rank):
    """The transfer with this rank among those with so many requests."""
    check_states(tree, start, end, renewed)
    check_number(length, 0, MOST_LINES)
    check_number(rank, 0, None)
    loom = plan_loom(tree, start, end, renewed, length)
    if rank >= loom.total():
        raise InvalidNumber(rank)
    return ranked_plan(loom, length, rank)


def loaded_once(run):
    """The slots that the run loads; BrokenRun if it loads one of them again."""
    loaded = []
    for index, (kind, slot) in enumerate(run):
        if kind == "load":
            if slot in loaded:
                raise BrokenRun(index, -1)
            loaded.append(slot)
    return loaded


def plan_rank(tree, start, end, run):
    """The rank of the run among the transfers of its own length that renew the slots that it loads."""
    check_pattern(tree, start)
    check_pattern(tree, end)
    check_run(tree, run)
    if len(run) > MOST_LINES:
        raise TooMany(MOST_LINES)
    play(tree, start, run)
    loaded = loaded_once(run)
    check_ends(tree, start, run, end)
    loom = plan_loom(tree, start, end, loaded, len(run))
    rank = 0
    for kind, slot in run:
        letter = kind[0]
        if letter == "l":
            rank = rank + loom.begun_with("h")
        rank = rank + loom.begun_below(letter, slot)
        loom = loom.behind(letter, slot)
    return rank


def first_plan(tree, start, end, renewed):
    """The first transfer of the least length."""
    length = least_requests(tree, start, end, renewed)
    if length > MOST_LINES:
        raise TooMany(MOST_LINES)
    return ranked_plan(plan_loom(tree, start, end, renewed, length), length, 0)
