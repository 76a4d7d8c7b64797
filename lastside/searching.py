"""Searches: some of the questions of the other modules, answered by breadth-first search over all flags.

None of the rules about forks is used here, only what one request does to flags.
"""

from lastside.checks import check_chosen, check_end, check_flags, check_number, check_pattern, check_rows
from lastside.errors import TooMany
from lastside.flags import each_flags, fits, turned, victim_of
from lastside.notation import KINDS_BY_LETTER

MOST_SLOTS = 5
MOST_LETTERS = 12


def check_searched(tree):
    """Raises TooMany for a tree that is too large to be searched."""
    if len(tree) > MOST_SLOTS:
        raise TooMany(MOST_SLOTS)


def lines_from(tree, flags, loadable):
    """The lines that are possible with the flags and load only some slots."""
    hits = [("hit", slot) for slot in range(len(tree))]
    victim = victim_of(tree, flags)
    return hits + [("load", victim)] if victim in loadable else hits


def moves_by_flags(tree, loadable):
    """The lines that are possible with all flags, by the flags: tuples (kind, slot, flags behind)."""
    moves = {}
    for flags in each_flags(tree):
        lines = lines_from(tree, flags, loadable)
        moves[flags] = [(kind, slot, turned(tree, flags, slot)) for kind, slot in lines]
    return moves


def distances(moves, flags):
    """The least numbers of requests, by the flags behind them and the sorted tuple of the loaded slots."""
    found = {(flags, ()): 0}
    front = [(flags, ())]
    rounds = 0
    while len(front) > 0:
        rounds += 1
        behind = {}
        for before, loaded in front:
            for kind, slot, after in moves[before]:
                gained = kind == "load" and slot not in loaded
                state = (after, tuple(sorted(loaded + (slot,))) if gained else loaded)
                if state not in found:
                    found[state] = rounds
                    behind[state] = True
        front = list(behind)
    return found


def search_least(tree, flags, end, renewed):
    """The least number of requests to flags that fit the end in which the renewed slots alone are loaded."""
    check_flags(tree, flags)
    check_end(tree, end)
    check_chosen(tree, renewed)
    check_searched(tree)
    found = distances(moves_by_flags(tree, renewed), flags)
    wanted = tuple(sorted(renewed))
    return min([many for (after, loaded), many in found.items()
                if loaded == wanted and (end is None or fits(after, end))])


def search_hits(tree, flags):
    """For all flags the least number of hits that lead there and the number of the shortest rows of hits."""
    check_flags(tree, flags)
    check_searched(tree)
    found = {flags: (0, 1)}
    front = [flags]
    rounds = 0
    while len(front) > 0:
        rounds += 1
        rows = {}
        for before in front:
            for slot in range(len(tree)):
                after = turned(tree, before, slot)
                if after not in found:
                    rows[after] = rows.get(after, 0) + found[before][1]
        for after, many in rows.items():
            found[after] = (rounds, many)
        front = list(rows)
    return sorted([(after, number, many) for after, (number, many) in found.items()])


def search_most_loads(tree, flags, kept, length):
    """The greatest number of loads in a valid run of so many requests that loads no kept slot."""
    check_flags(tree, flags)
    check_chosen(tree, kept)
    check_number(length, 0, MOST_LETTERS)
    check_searched(tree)
    moves = moves_by_flags(tree, [slot for slot in range(len(tree)) if slot not in kept])
    most = {flags: 0}
    for _ in range(length):
        behind = {}
        for before, loads in most.items():
            for kind, slot, after in moves[before]:
                more = loads + (1 if kind == "load" else 0)
                behind[after] = max(more, behind.get(after, 0))
        most = behind
    return max(list(most.values()))


def next_states(tree, rows, state):
    """The states behind the next line of each slot: tuples (line, state), by slot ascending.

    A state is a tuple (numbers of taken lines by slot, sorted tuple of the flags that are possible).
    """
    taken, possible = state
    found = []
    for slot, row in enumerate(rows):
        if taken[slot] < len(row):
            kind = KINDS_BY_LETTER[row[taken[slot]]]
            right = [flags for flags in possible if kind == "hit" or victim_of(tree, flags) == slot]
            behind = {turned(tree, flags, slot): True for flags in right}
            if len(behind) > 0:
                counts = taken[:slot] + (taken[slot] + 1,) + taken[slot + 1:]
                found.append(((kind, slot), (counts, tuple(sorted(list(behind))))))
    return found


def levels_of(tree, rows, state):
    """For each number of taken lines a dict of what follows each state that can be reached."""
    levels = []
    states = [state]
    for _ in range(sum([len(row) for row in rows]) + 1):
        level = {before: next_states(tree, rows, before) for before in states}
        levels.append(level)
        states = list({after: True for steps in list(level.values()) for line, after in steps})
    return levels


def finishing_states(levels, end):
    """The states from which the rows can be woven to flags that fit the end."""
    finishing = {}
    for taken, possible in levels[-1]:
        if any([fits(flags, end) for flags in possible]):
            finishing[(taken, possible)] = True
    for level in levels[:-1][::-1]:
        for state, steps in level.items():
            if any([after in finishing for line, after in steps]):
                finishing[state] = True
    return finishing


def search_weavings(tree, start, rows, *, end=None):
    """All weavings of the rows from the start to the end, in order."""
    check_pattern(tree, start)
    check_rows(tree, rows)
    check_end(tree, end)
    check_searched(tree)
    if sum([len(row) for row in rows]) > MOST_LETTERS:
        raise TooMany(MOST_LETTERS)
    first = ((0,) * len(tree), tuple([flags for flags in each_flags(tree) if fits(flags, start)]))
    levels = levels_of(tree, rows, first)
    finishing = finishing_states(levels, "?" * tree.forks if end is None else end)
    # Lines are added by slot ascending to runs that are in order, so the runs stay in order.
    runs = [([], first)] if first in finishing else []
    for level in levels[:-1]:
        runs = [(run + [line], after) for run, state in runs for line, after in level[state] if after in finishing]
    return [run for run, state in runs]


def dearest(tree):
    """The greatest number that `search_least` returns for any flags, any flags at the end and any renewed slots."""
    check_searched(tree)
    # A run that loads some slots alone does not depend on which others could be loaded as well.
    moves = moves_by_flags(tree, list(range(len(tree))))
    return max([max(list(distances(moves, flags).values())) for flags in each_flags(tree)])
