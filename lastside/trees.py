"""Trees: their text, their slots and forks, and their changes."""

from lastside.checks import check_fork, check_number, check_side, check_slot
from lastside.errors import InvalidNumber, InvalidSlot, InvalidTree, TooMany
from lastside.treetexts import read_forks, slot_depths

MIRRORED_MARKS = {"(": ")", ".": ".", ")": "("}
MOST_SHAPED = 7
GREATEST_EVEN = 6


class Tree:
    """A binary tree of 1 to 64 slots."""

    MOST = 64

    def __init__(self, text):
        # A tree of m slots has a text of 3 * m - 2 characters, so this bounds the slots as well.
        if not isinstance(text, str) or len(text) > 3 * Tree.MOST - 2:
            raise InvalidTree(text)
        forks = read_forks(text)
        if forks is None:
            raise InvalidTree(text)
        self.text = text
        self._depths = slot_depths(text)
        self._sides = {fork: sides for fork, sides, span, place in forks}
        self._spans = {fork: span for fork, sides, span, place in forks}
        self._places = {fork: place for fork, sides, span, place in forks}
        self._postorder = [fork for fork, sides, span, place in forks]
        # In the text the open marks of the forks stand in preorder.
        begins = sorted([(place[0], fork) for fork, sides, span, place in forks])
        self._preorder = [fork for begin, fork in begins]

    def __str__(self):
        return str(self.text)

    def __len__(self):
        return len(self._depths)

    def __eq__(self, other):
        return isinstance(other, Tree) and self.text == other.text

    def __add__(self, other):
        if not isinstance(other, Tree):
            return NotImplemented
        if len(self) + len(other) > Tree.MOST:
            raise TooMany(Tree.MOST)
        return Tree(f"({self.text}{other.text})")

    @property
    def forks(self):
        """The number of forks."""
        return len(self._sides)

    @property
    def height(self):
        """The greatest depth of a slot."""
        return max(self._depths)

    @property
    def least_depth(self):
        """The least depth of a slot."""
        return min(self._depths)

    @property
    def is_even(self):
        """True if all slots have the same depth."""
        return min(self._depths) == max(self._depths)

    @property
    def top(self):
        """The node at the root."""
        if len(self._postorder) == 0:
            return ("slot", 0)
        return ("fork", self._postorder[-1])

    def sides(self, fork):
        """The nodes of the left and of the right side of the fork."""
        check_fork(self, fork)
        return self._sides[fork]

    def path(self, slot):
        """The list of the tuples (fork, side) from the root to the slot."""
        check_slot(self, slot)
        steps = []
        kind, number = self.top
        while kind == "fork":
            left, right = self._sides[number]
            if slot <= number:
                steps.append((number, "L"))
                kind, number = left
            else:
                steps.append((number, "R"))
                kind, number = right
        return steps

    def depth(self, slot):
        """The number of forks on the path of the slot."""
        check_slot(self, slot)
        return self._depths[slot]

    def span(self, fork):
        """The first and the last slot below the fork."""
        check_fork(self, fork)
        return self._spans[fork]

    def walk(self, *, last=False):
        """The forks, each before those of its sides, or each behind them if `last` is True."""
        if last:
            yield from self._postorder
        else:
            yield from self._preorder

    def subtree(self, fork):
        """The tree below the fork."""
        check_fork(self, fork)
        return Tree(self._text_of("fork", fork))

    def collapsed(self, fork):
        """The tree in which one slot replaces the fork and all below it."""
        check_fork(self, fork)
        return Tree(self._replaced(self._places[fork], "."))

    def mirrored(self):
        """The tree with the sides of every fork exchanged."""
        return Tree("".join([MIRRORED_MARKS[mark] for mark in self.text[::-1]]))

    def grown(self, slot):
        """The tree in which a fork with two slots replaces the slot."""
        check_slot(self, slot)
        if len(self) == Tree.MOST:
            raise TooMany(Tree.MOST)
        at = [place for place, mark in enumerate(self.text) if mark == "."][slot]
        return Tree(self._replaced((at, at + 1), "(..)"))

    def closed(self, slot):
        """The tree without the slot and without the fork directly above it."""
        check_slot(self, slot)
        if len(self) == 1:
            raise InvalidSlot(slot)
        fork, side = self.path(slot)[-1]
        left, right = self._sides[fork]
        kind, number = right if side == "L" else left
        return Tree(self._replaced(self._places[fork], self._text_of(kind, number)))

    def _text_of(self, kind, number):
        """The text of a node."""
        if kind == "slot":
            return "."
        begin, end = self._places[number]
        return self.text[begin:end]

    def _replaced(self, place, text):
        """The text of this tree with another text in this place."""
        begin, end = place
        return self.text[:begin] + text + self.text[end:]

    @classmethod
    def even(cls, height):
        """The even tree of this height."""
        check_number(height, 0, GREATEST_EVEN)
        text = "."
        for _ in range(height):
            text = f"({text}{text})"
        return cls(text)

    @classmethod
    def comb(cls, slots, *, side="R"):
        """The comb of so many slots that leans to the side."""
        check_number(slots, 1, Tree.MOST)
        check_side(side)
        text = "."
        for _ in range(slots - 1):
            text = f"(.{text})" if side == "R" else f"({text}.)"
        return cls(text)


def joined(*trees, side="L"):
    """The trees joined to one, beginning with the first two ("L") or with the last two ("R")."""
    if len(trees) == 0:
        raise InvalidNumber(0)
    check_side(side)
    if side == "L":
        whole = trees[0]
        for tree in trees[1:]:
            whole = whole + tree
    else:
        whole = trees[-1]
        for tree in trees[:-1][::-1]:
            whole = tree + whole
    return whole


def shape_texts(slots):
    """The texts of all trees of so many slots, in the order of `shapes`."""
    texts = {1: ["."]}
    for many in range(2, slots + 1):
        splits = [(texts[left], texts[many - left]) for left in range(1, many)]
        texts[many] = [f"({left}{right})" for lefts, rights in splits for left in lefts for right in rights]
    return texts[slots]


def shapes(slots):
    """All trees of so many slots: by the slots on the left, then by the left, then the right sides."""
    check_number(slots, 1, MOST_SHAPED)
    for text in shape_texts(slots):
        yield Tree(text)
