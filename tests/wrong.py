"""Wrong arguments of every kind, with the errors that they are due, and certificates with one thing changed.

All of them are meant for the tree TEXT of four slots.
"""

from lastside.errors import InvalidFlags, InvalidFork, InvalidLine, InvalidNumber, InvalidRow, InvalidRule, InvalidSlot
from tests.plain import STRANGE

TEXT = "((..)(..))"
BIG = 10 ** 59
NO_SLOTS = [None, True, False, -1, 4, 63, 64, BIG, -BIG, "0", "", [], [0], (), (0,)]
NO_LINES = [None, True, 0, "h0", "hit", [], ["hit", 0], (), ("hit",), ("hit", 0, 0), ("hit", -1), ("hit", 4), ("load", 64),
            ("hit", BIG), ("hit", True), ("load", False), ("hit", None), ("hit", "0"), ("hit", [0]), ("load", (0,)),
            ("HIT", 0), ("h", 0), ("request", 0), (None, 0), (0, "hit"), (["hit"], 0), ("", 0)]
NO_ROWS = [None, True, 0, 1, -1, "x", "hit", "H", "h ", " ", "hL", "h,l", "?", [], ["h"], (), ("h",), [[]], "h\n"]


def is_list(value):
    return isinstance(value, list)


def is_number(value):
    return isinstance(value, int) and not isinstance(value, bool)


def wrong_flags():
    values = STRANGE + ["LL", "LLLL", "lll", "LLX", "LL.", "LL ", "LL\n", ["L", "L", "L"], ("L", "L", "L"), "LLL?"]
    return [(value, InvalidFlags, (value,)) for value in values if value not in ("LLL", "???")]


def wrong_slot_lists(twice):
    found = [(value, InvalidSlot, (value,)) for value in STRANGE if not is_list(value)] + [("01", InvalidSlot, ("01",))]
    for slot in NO_SLOTS:
        found += [([slot], InvalidSlot, (slot,)), ([0, 3, slot, 9], InvalidSlot, (slot,))]
    if twice:
        found += [([0, 0], InvalidSlot, (0,)), ([3, 1, 2, 1, 9], InvalidSlot, (1,)), ([0, 9, 0], InvalidSlot, (9,))]
    return found


def wrong_runs():
    found = [(value, InvalidLine, (-1,)) for value in STRANGE if not is_list(value)] + [((("hit", 0),), InvalidLine, (-1,))]
    for line in NO_LINES:
        found += [([line], InvalidLine, (0,)), ([("load", 3), ("hit", 0), line, None], InvalidLine, (2,))]
    return found


def wrong_rows():
    found = [(value, InvalidRow, (-1,)) for value in STRANGE + [[""] * 3, [""] * 5, ("", "", "", ""), "hhhh", [None] * 3]]
    for row in NO_ROWS:
        found += [([row, "", "", None], InvalidRow, (0,)), (["h", "l", "", row], InvalidRow, (3,))]
    return found


def wrong_numbers(low):
    values = [value for value in STRANGE if not is_number(value)] + [low - 1, -1, -BIG]
    return [(value, InvalidNumber, (value,)) for value in values]


def wrong_forks():
    values = [value for value in STRANGE if not is_number(value)] + [-1, 3, 4, 63, BIG, -BIG]
    return [(value, InvalidFork, (value,)) for value in values]


def wrong_orders():
    found = wrong_slot_lists(True)
    return found + [(slots, InvalidSlot, (slots,)) for slots in ([], [0], [2, 1, 3], [3, 2, 1])]


def wrong_marks():
    values = STRANGE + ["L", "..", "....", "LLLL", "LL?", "???", "l..", [".", ".", "."], (".", ".", "."), "..\n"]
    # The root is fork 1: a flag on a side needs a slot or a flag there, and below a dot stand dots.
    values += ["L..", "..R", "L.R", ".L.", ".R.", "LR.", ".LR"]
    return [(value, InvalidFlags, (value,)) for value in values]


def wrong_rules():
    values = STRANGE + ["tt", "ttaa", "TTA", "tta ", "tta,tts", "att", "hit", ["tta"], ("tta",), ["t", "t", "a"], "t?a"]
    return [(value, InvalidRule, (value,)) for value in values]


def too_great(*values):
    return [(value, InvalidNumber, (value,)) for value in values]


WRONG = {
    "flags": wrong_flags() + [("L?L", InvalidFlags, ("L?L",))],
    "pattern": wrong_flags(),
    "end": [row for row in wrong_flags() if row[0] is not None],
    "slots": wrong_slot_lists(False),
    "chosen": wrong_slot_lists(True),
    "run": wrong_runs(),
    "rows": wrong_rows(),
    "row": [(value, InvalidRow, (0,)) for value in NO_ROWS],
    "number": wrong_numbers(0),
    "positive": wrong_numbers(1),
    "length": wrong_numbers(0) + too_great(61, 62, 10 ** 40, BIG),
    "loads": wrong_numbers(0) + too_great(10 ** 40 + 1, BIG),
    "fork": wrong_forks(),
    "slot": [(value, InvalidSlot, (value,)) for value in NO_SLOTS],
    "order": wrong_orders(),
    "marks": wrong_marks(),
    "rule": wrong_rules(),
}


def check_wrong(case, function, *kinds, **more):
    """Each wrong argument, and each two of them, raise the error that is due.

    `kinds` and `more` are pairs (kind, right value); the kind "any" takes every value. The arguments
    that are passed by keyword are checked last.
    """
    places = list(range(len(kinds))) + list(more)
    kind_of = {**dict(enumerate(kinds)), **more}

    def call(error, values, changed):
        arguments = [changed.get(place, kinds[place][1]) for place in range(len(kinds))]
        case.refuses(error, values, function, *arguments, **{name: changed.get(name, more[name][1]) for name in more})

    for at, place in enumerate(places):
        for value, error, values in WRONG.get(kind_of[place][0], []):
            call(error, values, {place: value})
            for later in places[at + 1:]:
                for other, _, _ in WRONG.get(kind_of[later][0], [])[:4]:
                    call(error, values, {place: value, later: other})


def variations(value):
    """The value with one thing changed: another value, another kind, one element more or less."""
    if isinstance(value, bool):
        return [not value, int(value), None]
    if isinstance(value, int):
        return [value + 1, value - 1, -value - 1, str(value), None, [value], (value,), bool(value)]
    if value is None:
        return [0, False, "", [], ()]
    if isinstance(value, str):
        return [value + "h", value[1:] + "x", value.upper() + "-", None, [value]]
    kind, other = type(value), tuple if isinstance(value, list) else list
    found = [other(value), kind(list(value) + [0]), kind(list(value) + list(value[-1:]) + [None]), None]
    found += [kind(list(value[:at]) + list(value[at + 1:])) for at in range(len(value))]
    found += [kind(list(value[:at]) + [value[at + 1], value[at]] + list(value[at + 2:])) for at in range(len(value) - 1)]
    for at, part in enumerate(value):
        found += [kind(list(value[:at]) + [new] + list(value[at + 1:])) for new in variations(part)]
    return found
