"""A plain model of traces for the tests: it tries all flags and all runs of small traces."""

import itertools

from tests.plain import Plain


def random_item(chance, plain, most=2):
    """An item of any kind for a tree; `most` bounds the numbers in it."""
    word = chance.choice(["flags", "hit", "load", "load", "request", "request", "some"])
    if word == "flags":
        return (word, "".join(chance.choice("LR???") for _ in range(plain.forks)))
    if word == "some":
        low = chance.randrange(most + 1)
        return (word, low, chance.choice([None, low, low + 1]))
    many = chance.randrange(1, plain.slots + 1)
    return (word, tuple(sorted(chance.sample(range(plain.slots), many))))


def random_trace(chance, plain, many, most=2):
    """A trace with so many items."""
    return [random_item(chance, plain, most) for _ in range(many)]


def seen_trace(chance, plain, many):
    """A trace that tells parts of what truly happened, and the flags at each of its moments."""
    flags = "".join(chance.choice("LR") for _ in range(plain.forks))
    rows, items = [flags], []
    for _ in range(many):
        word = chance.choice(["flags", "hit", "load", "load", "request", "some"])
        slot = plain.victim(flags) if word == "load" else chance.randrange(plain.slots)
        if word == "flags":
            items.append((word, "".join(chance.choice([side, "?"]) for side in flags)))
        elif word == "some":
            times = chance.randrange(3)
            for _ in range(times):
                flags = plain.after(flags, chance.randrange(plain.slots))
            items.append((word, chance.randrange(times + 1), chance.choice([None, times, times + 2])))
        else:
            others = chance.sample(range(plain.slots), chance.randrange(plain.slots + 1))
            items.append((word, tuple(sorted(set(others) | {slot}))))
            flags = plain.after(flags, slot)
        rows.append(flags)
    return items, rows


def lines_of(plain, flags, kinds, slots):
    """The valid lines of these kinds at these slots."""
    return [(kind, slot) for kind in kinds for slot in slots if kind == "hit" or plain.victim(flags) == slot]


def runs_of(plain, item, flags, bound=3):
    """The valid runs for which an item can stand from the flags, with at most `bound` requests more than it needs."""
    if item[0] == "flags":
        return [[]] if flags in plain.fitting(item[1]) else []
    if item[0] != "some":
        kinds = ("hit", "load") if item[0] == "request" else (item[0],)
        return [[line] for line in lines_of(plain, flags, kinds, item[1])]
    low, high = item[1], item[1] + bound if item[2] is None else min(item[2], item[1] + bound)
    found = []
    waiting = [([], flags)]
    for run, behind in waiting:
        if low <= len(run) <= high:
            found.append(run)
        if len(run) < high:
            for line in lines_of(plain, behind, ("hit", "load"), range(plain.slots)):
                waiting.append((run + [line], plain.after(behind, line[1])))
    return found


def histories(plain, items, bound=3):
    """All histories, as tuples (flags, runs), and for each the flags at all moments."""
    found = [(flags, [], [flags]) for flags in plain.all_flags()]
    for item in items:
        longer = []
        for start, runs, rows in found:
            for run in runs_of(plain, item, rows[-1], bound):
                longer.append((start, runs + [run], rows + [plain.outcome(rows[-1], run)]))
        found = longer
    return [((start, runs), rows) for start, runs, rows in found]


def flags_by_moment(plain, items, bound=3):
    """The possible flags at each moment, by following sets of flags both ways."""
    steps = []
    for item in items:
        steps.append({flags: {plain.outcome(flags, run) for run in runs_of(plain, item, flags, bound)}
                      for flags in plain.all_flags()})
    ahead = [set(plain.all_flags())]
    for step in steps:
        ahead.append({after for flags in ahead[-1] for after in step[flags]})
    for index in range(len(items) - 1, -1, -1):
        ahead[index] = {flags for flags in ahead[index] if steps[index][flags] & ahead[index + 1]}
    return [sorted(row) for row in ahead]


def all_claims(plain, items):
    """All claims about a trace."""
    claims = [("flag", moment, fork, side) for moment in range(len(items) + 1) for fork in range(plain.forks) for side in "LR"]
    for index, item in enumerate(items):
        if item[0] in ("hit", "load", "request"):
            claims += [("kind", index, kind) for kind in ("hit", "load")]
            claims += [(word, index, slot) for word in ("slot", "not slot") for slot in range(plain.slots)]
    return claims


def is_true(claim, story, rows):
    """Whether a claim is true in a history with these flags at its moments."""
    if claim[0] == "flag":
        return rows[claim[1]][claim[2]] == claim[3]
    kind, slot = story[1][claim[1]][0]
    return {"kind": kind == claim[2], "slot": slot == claim[2], "not slot": slot != claim[2]}[claim[0]]


def is_plain_closed(plain, items, claim, truth, value, bound=3):
    """Whether a well-formed value is a closed list for a claim being true or false (None: for nothing), by point 48."""
    def allows_flags(moment, flags):
        if claim is None or claim[0] != "flag" or claim[1] != moment:
            return True
        return (flags[claim[2]] == claim[3]) == truth

    def allows_run(index, run):
        if claim is None or claim[0] == "flag" or claim[1] != index:
            return True
        return is_true((claim[0], 0, claim[2]), (None, [run]), None) == truth

    if len(value) != len(items) + 1 or value[-1] or any(row != sorted(set(row)) for row in value):
        return False
    if any(allows_flags(0, flags) and flags not in value[0] for flags in plain.all_flags()):
        return False
    for index, item in enumerate(items):
        for flags in value[index]:
            for run in runs_of(plain, item, flags, bound):
                after = plain.outcome(flags, run)
                if allows_run(index, run) and allows_flags(index + 1, after) and after not in value[index + 1]:
                    return False
    return True


def small_plains():
    """The trees of one to three slots."""
    return [Plain(text) for text in (".", "(..)", "((..).)", "(.(..))")]


def small_items(plain):
    """All requests at one or all slots, and some other items."""
    slots = [(slot,) for slot in range(plain.slots)] + ([tuple(range(plain.slots))] if plain.slots > 1 else [])
    items = [(kind, chosen) for kind in ("hit", "load", "request") for chosen in slots]
    items += [("flags", pattern) for pattern in plain.all_patterns()]
    return items + [("some", 0, 0), ("some", 1, 1), ("some", 0, None)]


def small_traces(plain, most):
    """All traces with at most so many of the small items."""
    return [list(items) for many in range(most + 1) for items in itertools.product(small_items(plain), repeat=many)]
