"""Wrong arguments of every kind, with the errors that they are due, and certificates with one thing changed.

All of them are meant for the tree TEXT of four slots, claims for the trace TRACE.
"""

from lastside.errors import InvalidClaim, InvalidEntry, InvalidFlags, InvalidFork, InvalidItem, InvalidLine
from lastside.errors import InvalidNumber, InvalidRow, InvalidRule, InvalidSlot
from tests.plain import STRANGE

TEXT = "((..)(..))"
BIG = 10 ** 59
NO_SLOTS = [None, True, False, -1, 4, 63, 64, BIG, -BIG, "0", "", [], [0], (), (0,)]
NO_LINES = [None, True, 0, "h0", "hit", [], ["hit", 0], (), ("hit",), ("hit", 0, 0), ("hit", -1), ("hit", 4), ("load", 64),
            ("hit", BIG), ("hit", True), ("load", False), ("hit", None), ("hit", "0"), ("hit", [0]), ("load", (0,)),
            ("HIT", 0), ("h", 0), ("request", 0), (None, 0), (0, "hit"), (["hit"], 0), ("", 0)]
TRACE = [("flags", "L??"), ("request", (0, 3)), ("some", 0, 2), ("load", (1, 2))]
NO_ENTRIES = ["", "a" * 13, "A", "a b", "a-b", "a,b", "e_1", " a", "a\n", "\u00e9", "\u00b2", "\u0661", "?", b"a", None,
              True, False, 0, 1, -1, 10 ** 59, [], ["a"], (), ("a",), [[]]]
NO_SLOT_TUPLES = [None, True, False, 0, "", "0", [], [0], [0, 1], (), (0, 0), (1, 0), (0, 2, 1), (0, 1, 1), (0, True), (False, 1),
                  (4,), (0, 4), (-1, 0), (0, BIG), (None,), ("0",), ((0,),), ([0],), (0, None)]
NO_ITEMS = [value for value in STRANGE if value != ("hit", 0)] + [
    ["flags", "LLL"], ("flags",), ("flags", "LLL", 0), ("flags", ["L", "L", "L"]), ("flags", ("L", "L", "L")), ("flags", "LL"),
    ("flags", "LLLL"), ("flags", "LLX"), ("flags", "L.L"), ("flags", "lll"), ("flags", None), ("flags", ""), ("flags", 0),
    ("Flags", "LLL"), ("flag", "LLL"), ("LLL", "flags"), ["hit", (0,)], ["some", 0, None], ("hit",), ("hit", (0,), 1), ("hits", (0,)),
    ("HIT", (0,)), ("", (0,)), (None, (0,)), (0, (0,)), (True, (0,)), (["hit"], (0,)), (("hit",), (0,)), ((0,), "hit"), ("kept", (0,)),
    ("some",), ("some", 0), ("some", 0, None, 1), ("some", 1, 0), ("some", -1, None), ("some", -1, 3), ("some", True, 2),
    ("some", 0, True), ("some", False, None), ("some", 0, False), ("some", 0, -1), ("some", None, None), ("some", None, 2),
    ("some", "0", None), ("some", 0, "2"), ("some", [0], None), ("some", 0, [2]), ("some", 0, (2,)), ("some", BIG, BIG - 1),
    ("Some", 0, 1), ("some", (0,))]
NO_CLAIMS = [value for value in STRANGE] + [
    ["flag", 0, 0, "L"], ("flag",), ("flag", 0, 0), ("flag", 0, 0, "L", 0), ("flag", 5, 0, "L"), ("flag", -1, 0, "L"),
    ("flag", BIG, 0, "L"), ("flag", True, 0, "L"), ("flag", None, 0, "L"), ("flag", "0", 0, "L"), ("flag", 0, 3, "L"),
    ("flag", 0, -1, "L"), ("flag", 0, False, "L"), ("flag", 0, "0", "L"), ("flag", 0, 0, "?"), ("flag", 0, 0, ""), ("flag", 0, 0, "l"),
    ("flag", 0, 0, "LL"), ("flag", 0, 0, None), ("flag", 0, 0, ["L"]), ("flag", 0, 0, True), ("flags", 0, 0, "L"), (None, 0, 0, "L"),
    ["kind", 1, "hit"], ("kind",), ("kind", 1), ("kind", 1, "hit", 0), ("kind", 0, "hit"), ("kind", 2, "hit"), ("kind", 4, "hit"),
    ("kind", -1, "hit"), ("kind", -3, "load"), ("kind", True, "hit"), ("kind", None, "hit"), ("kind", 1, "request"), ("kind", 1, "h"),
    ("kind", 1, None), ("kind", 1, 0), ("kind", 1, ["hit"]), ("kinds", 1, "hit"), ["slot", 1, 0], ("slot", 1), ("slot", 1, 0, 0),
    ("slot", 0, 0), ("slot", 2, 0), ("slot", 4, 0), ("slot", -1, 1), ("slot", True, 0), ("slot", 1, 4), ("slot", 1, -1),
    ("slot", 1, True), ("slot", 1, "0"), ("slot", 1, (0,)), ("slot", 1, None), ("slot", 1, "hit"), ["not slot", 1, 0],
    ("not slot", 1), ("not slot", 0, 0), ("not slot", 2, 0), ("not slot", 4, 0), ("not slot", -1, 0), ("not slot", 1, 4),
    ("not slot", 1, False), ("not slot", 1, None), ("not slot", True, 0), ("not_slot", 1, 0), ("not", 1, 0), ("hit", 1, 0), ("", 1, 0),
    (None, 1, 0), (["slot"], 1, 0), (1, "slot", 0), ("request", (0, 3)), ("some", 0, 2)]
NO_ROWS = [None, True, 0, 1, -1, "x", "hit", "H", "h ", " ", "hL", "h,l", "?", [], ["h"], (), ("h",), [[]], "h\n"]


def is_list(value):
    return isinstance(value, list)


def is_number(value):
    return isinstance(value, int) and not isinstance(value, bool)


def wrong_flags():
    values = STRANGE + ["LL", "LLLL", "lll", "LLX", "LL.", "LL ", "LL\n", ["L", "L", "L"], ("L", "L", "L"), "LLL?"]
    return [(value, InvalidFlags, (value,)) for value in values if value not in ("LLL", "???")]


def wrong_slot_lists(twice):
    found = [(value, InvalidSlot, (value,)) for value in STRANGE if not is_list(value)] + [("01", InvalidSlot, ("01",))]
    for slot in NO_SLOTS:
        found += [([slot], InvalidSlot, (slot,)), ([0, 3, slot, 9], InvalidSlot, (slot,))]
    if twice:
        found += [([0, 0], InvalidSlot, (0,)), ([3, 1, 2, 1, 9], InvalidSlot, (1,)), ([0, 9, 0], InvalidSlot, (9,))]
    return found


def wrong_runs():
    found = [(value, InvalidLine, (-1,)) for value in STRANGE if not is_list(value)] + [((("hit", 0),), InvalidLine, (-1,))]
    for line in NO_LINES:
        found += [([line], InvalidLine, (0,)), ([("load", 3), ("hit", 0), line, None], InvalidLine, (2,))]
    return found


def wrong_rows():
    found = [(value, InvalidRow, (-1,)) for value in STRANGE + [[""] * 3, [""] * 5, ("", "", "", ""), "hhhh", [None] * 3]]
    for row in NO_ROWS:
        found += [([row, "", "", None], InvalidRow, (0,)), (["h", "l", "", row], InvalidRow, (3,))]
    return found


def wrong_numbers(low):
    values = [value for value in STRANGE if not is_number(value)] + [low - 1, -1, -BIG]
    return [(value, InvalidNumber, (value,)) for value in values]


def wrong_forks():
    values = [value for value in STRANGE if not is_number(value)] + [-1, 3, 4, 63, BIG, -BIG]
    return [(value, InvalidFork, (value,)) for value in values]


def wrong_orders():
    found = wrong_slot_lists(True)
    return found + [(slots, InvalidSlot, (slots,)) for slots in ([], [0], [2, 1, 3], [3, 2, 1])]


def wrong_marks():
    values = STRANGE + ["L", "..", "....", "LLLL", "LL?", "???", "l..", [".", ".", "."], (".", ".", "."), "..\n"]
    # The root is fork 1: a flag on a side needs a slot or a flag there, and below a dot stand dots.
    values += ["L..", "..R", "L.R", ".L.", ".R.", "LR.", ".LR"]
    return [(value, InvalidFlags, (value,)) for value in values]


def wrong_rules():
    values = STRANGE + ["tt", "ttaa", "TTA", "tta ", "tta,tts", "att", "hit", ["tta"], ("tta",), ["t", "t", "a"], "t?a"]
    return [(value, InvalidRule, (value,)) for value in values]


def wrong_entry_lists(counts, twice):
    """Wrong lists of entries; those with another number of them than these counts are wrong as a whole."""
    names = [f"e{number}" for number in range(70)]
    found = [(value, InvalidEntry, (value,)) for value in STRANGE if not is_list(value)]
    found += [(("a", "b", "c", "d"), InvalidEntry, (("a", "b", "c", "d"),)), ("abcd", InvalidEntry, ("abcd",))]
    for many in (0, 1, 3, 4, 5, 63, 64, 65):
        if many not in counts:
            # The number is checked before the entries.
            found += [(names[:many], InvalidEntry, (names[:many],)), ([None] * many, InvalidEntry, ([None] * many,))]
    for entry in NO_ENTRIES:
        found += [([entry, "b", "c", None], InvalidEntry, (entry,)), (["a", "b", entry, "a"], InvalidEntry, (entry,))]
    if twice:
        found += [(["a", "b", "c", "a"], InvalidEntry, ("a",)), (["a", "b", "b", None], InvalidEntry, ("b",))]
    return found


def wrong_items():
    found = [(value, InvalidItem, (-1,)) for value in STRANGE if not is_list(value)]
    found += [((("some", 0, None),), InvalidItem, (-1,)), (("flags", "LLL"), InvalidItem, (-1,)), ("flags", InvalidItem, (-1,))]
    items = NO_ITEMS + [(kind, slots) for kind in ("hit", "load", "request") for slots in NO_SLOT_TUPLES]
    for item in items:
        found += [([item], InvalidItem, (0,)), ([("flags", "L?R"), ("load", (0, 3)), item, None], InvalidItem, (2,))]
    return found


def too_great(*values):
    return [(value, InvalidNumber, (value,)) for value in values]


WRONG = {
    "flags": wrong_flags() + [("L?L", InvalidFlags, ("L?L",))],
    "pattern": wrong_flags(),
    "end": [row for row in wrong_flags() if row[0] is not None],
    "slots": wrong_slot_lists(False),
    "chosen": wrong_slot_lists(True),
    "run": wrong_runs(),
    "rows": wrong_rows(),
    "row": [(value, InvalidRow, (0,)) for value in NO_ROWS],
    "number": wrong_numbers(0),
    "positive": wrong_numbers(1),
    "length": wrong_numbers(0) + too_great(61, 62, 10 ** 40, BIG),
    "loads": wrong_numbers(0) + too_great(10 ** 40 + 1, BIG),
    "fork": wrong_forks(),
    "slot": [(value, InvalidSlot, (value,)) for value in NO_SLOTS],
    "order": wrong_orders(),
    "marks": wrong_marks(),
    "rule": wrong_rules(),
    "entry": [(value, InvalidEntry, (value,)) for value in NO_ENTRIES],
    "entries": wrong_entry_lists([4], True),
    "held": wrong_entry_lists(range(1, 65), True),
    "requests": wrong_entry_lists(range(66), False),
    "items": wrong_items(),
    "claim": [(value, InvalidClaim, (value,)) for value in NO_CLAIMS],
}


def check_wrong(case, function, *kinds, **more):
    """Each wrong argument, and each two of them, raise the error that is due.

    `kinds` and `more` are pairs (kind, right value); the kind "any" takes every value. The arguments
    that are passed by keyword are checked last.
    """
    places = list(range(len(kinds))) + list(more)
    kind_of = {**dict(enumerate(kinds)), **more}

    def call(error, values, changed):
        arguments = [changed.get(place, kinds[place][1]) for place in range(len(kinds))]
        case.refuses(error, values, function, *arguments, **{name: changed.get(name, more[name][1]) for name in more})

    for at, place in enumerate(places):
        for value, error, values in WRONG.get(kind_of[place][0], []):
            call(error, values, {place: value})
            for later in places[at + 1:]:
                for other, _, _ in WRONG.get(kind_of[later][0], [])[:4]:
                    call(error, values, {place: value, later: other})


def variations(value):
    """The value with one thing changed: another value, another kind, one element more or less."""
    if isinstance(value, bool):
        return [not value, int(value), None]
    if isinstance(value, int):
        return [value + 1, value - 1, -value - 1, str(value), None, [value], (value,), bool(value)]
    if value is None:
        return [0, False, "", [], ()]
    if isinstance(value, str):
        return [value + "h", value[1:] + "x", value.upper() + "-", None, [value]]
    kind, other = type(value), tuple if isinstance(value, list) else list
    found = [other(value), kind(list(value) + [0]), kind(list(value) + list(value[-1:]) + [None]), None]
    found += [kind(list(value[:at]) + list(value[at + 1:])) for at in range(len(value))]
    found += [kind(list(value[:at]) + [value[at + 1], value[at]] + list(value[at + 2:])) for at in range(len(value) - 1)]
    for at, part in enumerate(value):
        found += [kind(list(value[:at]) + [new] + list(value[at + 1:])) for new in variations(part)]
    return found
