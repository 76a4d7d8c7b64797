"""Weaving the rows of a tree fork by fork: how many weavings there are, and how they go on.

The opening of a woven row is its first letter, or `-` for the empty row.
"""

from lastside.merging import agree, allowed_ends, merge_count

LETTERS = ("h", "l")
OPENINGS = ("h", "l", "-")


class Part:
    """The rows below one node, whatever their weaving.

    `ways` has the number of woven rows by their opening. For a fork, `weights` has, for a side and
    a letter, the number of woven rows for each row of that side that begins them with that letter.
    """

    def __init__(self, length, loads, ways, weights):
        self.length = length
        self.loads = loads
        self.ways = ways
        self.weights = weights

    def least(self, opening):
        """The least number of blocks of the woven rows with this opening."""
        return self.loads + (1 if opening == "h" else 0)


def row_part(row):
    """The part of a slot."""
    opening = row[0] if len(row) > 0 else "-"
    ways = {letter: 1 if letter == opening else 0 for letter in OPENINGS}
    return Part(len(row), row.count("l"), ways, {})


def begun_ways(part, letter, other, ends):
    """The number of woven rows for each row of `part` that begins them with the letter.

    `ends` lists how the talk may end, as `allowed_ends` does.
    """
    total = 0
    for opening in OPENINGS:
        if other.ways[opening] > 0:
            for same in ends:
                merged = merge_count(part.length, part.least(letter), other.length, other.least(opening), same)
                total += other.ways[opening] * merged
    return total


def fork_part(left, right, start, end):
    """The part of a fork with these sides and these characters of the start and the end pattern."""
    weights = {}
    for side, part, other in (("L", left, right), ("R", right, left)):
        ends = allowed_ends(side, end)
        for letter in LETTERS:
            stopped = part.ways[letter] == 0 or (letter == "l" and start == side)
            weights[(side, letter)] = 0 if stopped else begun_ways(part, letter, other, ends)
    ways = {}
    for letter in LETTERS:
        ways[letter] = left.ways[letter] * weights[("L", letter)] + right.ways[letter] * weights[("R", letter)]
    ways["-"] = left.ways["-"] * right.ways["-"] if agree(start, end) else 0
    return Part(left.length + right.length, left.loads + right.loads, ways, weights)


class Loom:
    """The rows that are still to be woven, to the pattern `end`, and the part of each node.

    A loom does not change: taking a line gives a new loom.
    """

    def __init__(self, tree, rows, end, parts):
        self._tree = tree
        self._rows = rows
        self._end = end
        self._parts = parts

    def part_of(self, fork):
        """The part of a fork."""
        return self._parts[("fork", fork)]

    def total(self):
        """The number of weavings."""
        return sum(list(self._parts[self._tree.top].ways.values()))

    def begun_at(self, slot):
        """The number of weavings that begin at the slot."""
        row = self._rows[slot]
        if row == "":
            return 0
        total = 1
        for fork, side in self._tree.path(slot):
            total = total * self.part_of(fork).weights[(side, row[0])]
        return total

    def first_slots(self):
        """The slots at which weavings begin, ascending."""
        return [slot for slot in range(len(self._tree)) if self.begun_at(slot) > 0]

    def line_at(self, slot):
        """The next line of the slot."""
        return ("hit" if self._rows[slot][0] == "h" else "load", slot)

    def behind(self, slot):
        """The loom behind the next line of the slot."""
        rows = list(self._rows)
        parts = {node: self._parts[node] for node in self._parts}
        rows[slot] = rows[slot][1:]
        parts[("slot", slot)] = row_part(rows[slot])
        for fork, side in self._tree.path(slot)[::-1]:
            left, right = self._tree.sides(fork)
            parts[("fork", fork)] = fork_part(parts[left], parts[right], side, self._end[fork])
        return Loom(self._tree, rows, self._end, parts)


def new_loom(tree, start, rows, end):
    """The loom of these rows from the start to the end, where None allows every end."""
    ends = "?" * tree.forks if end is None else end
    parts = {("slot", slot): row_part(row) for slot, row in enumerate(rows)}
    for fork in tree.walk(last=True):
        left, right = tree.sides(fork)
        parts[("fork", fork)] = fork_part(parts[left], parts[right], start[fork], ends[fork])
    return Loom(tree, list(rows), ends, parts)
