"""A plain model of trees, flags and runs for the tests.

It shares nothing with the package: trees are nested pairs, and everything is found by trying.
"""

import itertools

# A value of every other kind, for the arguments of which none of these is right.
STRANGE = [None, True, False, -1, 10 ** 59, -(10 ** 59), "", "?", "x", "L" * 99, " ", [], [0], [[]], (), (0,), ("hit",),
           ("hit", 0), [("hit", 0)], ["L"], ("L",), [None], [True]]


def nested(text):
    """The nested pairs of the text of a tree; a slot is None."""
    def read(at):
        if text[at] == ".":
            return None, at + 1
        left, at = read(at + 1)
        right, at = read(at)
        assert text[at] == ")"
        return (left, right), at + 1
    shape, end = read(0)
    assert end == len(text)
    return shape


def written(shape):
    """The text of nested pairs."""
    return "." if shape is None else "(" + written(shape[0]) + written(shape[1]) + ")"


def size(shape):
    """The number of slots of nested pairs."""
    return 1 if shape is None else size(shape[0]) + size(shape[1])


def all_shapes(slots):
    """All nested pairs with so many slots."""
    if slots == 1:
        return [None]
    return [(left, right) for many in range(1, slots) for left in all_shapes(many)
            for right in all_shapes(slots - many)]


def texts_up_to(slots, low=1):
    """The texts of all trees with low to so many slots."""
    return [written(shape) for many in range(low, slots + 1) for shape in all_shapes(many)]


def turns(shape, first=0):
    """The pairs (slot, list of (fork, side) from the root) of nested pairs."""
    if shape is None:
        return [(first, [])]
    fork = first + size(shape[0]) - 1
    left = [(slot, [(fork, "L")] + path) for slot, path in turns(shape[0], first)]
    return left + [(slot, [(fork, "R")] + path) for slot, path in turns(shape[1], fork + 1)]


class Plain:
    """The paths of a tree by slot, and what follows from them."""

    def __init__(self, text):
        self.text = text
        self.shape = nested(text)
        self.slots = size(self.shape)
        self.forks = self.slots - 1
        self.paths = [path for _, path in turns(self.shape)]

    def below(self, fork):
        """The slots below a fork."""
        return [slot for slot, path in enumerate(self.paths) if fork in [step[0] for step in path]]

    def all_flags(self):
        """All flags as texts."""
        return ["".join(flags) for flags in itertools.product("LR", repeat=self.forks)]

    def all_patterns(self):
        """All patterns as texts."""
        return ["".join(flags) for flags in itertools.product("LR?", repeat=self.forks)]

    def fitting(self, pattern):
        """All flags that fit a pattern."""
        return [flags for flags in self.all_flags()
                if all(known == "?" or known == flag for flag, known in zip(flags, pattern))]

    def after(self, flags, slot):
        """The flags after a request at a slot."""
        marks = list(flags)
        for fork, side in self.paths[slot]:
            marks[fork] = side
        return "".join(marks)

    def victim(self, flags):
        """The slot that no fork blocks."""
        free = [slot for slot, path in enumerate(self.paths) if all(flags[fork] != side for fork, side in path)]
        assert len(free) == 1
        return free[0]

    def outcome(self, flags, run):
        """The flags behind a run, or None if it is not valid from the flags."""
        for kind, slot in run:
            if kind == "load" and slot != self.victim(flags):
                return None
            flags = self.after(flags, slot)
        return flags

    def outcomes(self, pattern, run, end=None):
        """The pairs (flags, flags behind the run) from a pattern to a pattern, for which the run is valid."""
        ends = self.fitting(end if end is not None else "?" * self.forks)
        pairs = [(flags, self.outcome(flags, run)) for flags in self.fitting(pattern)]
        return [(flags, behind) for flags, behind in pairs if behind is not None and behind in ends]


def orders(rows):
    """All runs with these rows, ascending by the lists of their slots."""
    slots = [slot for slot, row in enumerate(rows) for _ in row]
    found = []
    for order in sorted(set(itertools.permutations(slots))):
        places = [0] * len(rows)
        run = []
        for slot in order:
            run.append(("hit" if rows[slot][places[slot]] == "h" else "load", slot))
            places[slot] += 1
        found.append(run)
    return found


def large_texts():
    """Texts of trees of 64 slots: even, combs to both sides, zigzags, and a mixed one."""
    even = "."
    for _ in range(6):
        even = "(" + even + even + ")"
    right, left, zig, zag = ".", ".", ".", "."
    for number in range(63):
        right, left = "(." + right + ")", "(" + left + ".)"
        zig = "(." + zig + ")" if number % 2 else "(" + zig + ".)"
        zag = "(." + zag + ")" if number % 2 == 0 else "(" + zag + ".)"
    mixed = "."
    for number in range(21):
        mixed = ["((..)" + mixed + ")", "(" + mixed + "(..))", "(.(" + mixed + ".))"][number % 3]
    while mixed.count(".") < 64:
        mixed = "(" + mixed + ".)"
    return [even, right, left, zig, zag, mixed]
