"""Transfers of one length: how many there are, and how they go on, fork by fork.

The lines below a node are told by the letter of the first one, `h` or `l`, and by their number.
"""

from lastside.flags import turned
from lastside.looms import LETTERS
from lastside.merging import agree, allowed_ends, choose


class Piece:
    """The runs below one node.

    `loads` is the number of slots that are still to be renewed, and `empty` is 1 if there may be no line,
    otherwise 0. `ways` has for each letter the list of the numbers of runs, by their numbers of lines.
    """

    def __init__(self, loads, empty, ways):
        self.loads = loads
        self.empty = empty
        self.ways = ways

    def least(self, letter):
        """The least number of blocks of the runs that begin with the letter."""
        return self.loads + (1 if letter == "h" else 0)


class Seam:
    """The merges of runs of a side that begins and of another side, each with its first letter.

    If `lines` of `total` lines are those of the side that begins, two runs have C(total - self.short,
    lines - self.low) merges: these are the numbers of point 19, added up over the ends that are allowed.
    """

    def __init__(self, part, letter, other, opening, ends):
        self.own = part.ways[letter]
        self.others = other.ways[opening]
        self.own_least = part.least(letter)
        self.other_least = other.least(opening)
        self.low = self.other_least + (1 if ends == [True] else 0)
        self.short = self.own_least + self.other_least - (len(ends) - 1)

    def merged(self, length, triangle):
        """The numbers of merged runs, by their numbers of lines up to the length."""
        found = [0] * (length + 1)
        first = max(self.own_least, self.low)
        for total in range(self.own_least + self.other_least, length + 1):
            row = triangle[total - self.short]
            last = min(total - self.other_least, self.low + total - self.short)
            others = self.others[total - last:total - first + 1][::-1]
            found[total] = sum([own * other * merges for own, other, merges in zip(
                self.own[first:last + 1], others, row[first - self.low:])])
        return found

    def shared(self, weights, length, triangle):
        """For each run of the side that begins, by its number of lines, the weights of its merges added up."""
        found = [0] * (length + 1)
        for lines in range(max(self.own_least, self.low), length + 1):
            first = lines + max(self.other_least, self.short - self.low)
            at = lines - self.low
            found[lines] = sum([weight * other * row[at] for weight, other, row in zip(
                weights[first:length + 1], self.others[first - lines:], triangle[first - self.short:])])
        return found


def added(first, second):
    """The sums of the elements of two lists."""
    return [one + other for one, other in zip(first, second)]


def seams_of(part, letter, other, ends):
    """The seams of the runs of a side that begins with the letter, one for each first letter of the other side."""
    if not any(part.ways[letter]):
        return []
    return [Seam(part, letter, other, opening, ends) for opening in LETTERS if any(other.ways[opening])]


def stays_alone(part, letter, other, ends):
    """True if the other side may be empty beside runs of this side."""
    return other.empty == 1 and part.least(letter) == 1 and True in ends


def slot_piece(renewed, length):
    """The piece of a slot that is, or is not, still to be renewed."""
    one = [0] + [1] * length
    if renewed:
        return Piece(1, 0, {"h": [0] + list(range(length)), "l": one})
    return Piece(0, 1, {"h": one, "l": [0] * (length + 1)})


def fork_piece(left, right, start, end, length, triangle):
    """The piece of a fork with these sides and these characters of the start and the end pattern."""
    ways = {letter: [0] * (length + 1) for letter in LETTERS}
    for side, part, other in (("L", left, right), ("R", right, left)):
        ends = allowed_ends(side, end)
        for letter in LETTERS:
            if letter == "l" and start == side:
                continue
            if stays_alone(part, letter, other, ends):
                ways[letter] = added(ways[letter], part.ways[letter])
            for seam in seams_of(part, letter, other, ends):
                ways[letter] = added(ways[letter], seam.merged(length, triangle))
    empty = left.empty * right.empty if agree(start, end) else 0
    return Piece(left.loads + right.loads, empty, ways)


class PlanLoom:
    """The transfers of so many lines from a pattern to a pattern.

    A loom does not change: taking a line gives a new loom.
    """

    def __init__(self, tree, start, end, length, pieces, triangle):
        self._tree = tree
        self._start = start
        self._end = end
        self._length = length
        self._pieces = pieces
        self._triangle = triangle

    def begun_with(self, letter):
        """The number of transfers that begin with the letter."""
        return self._pieces[self._tree.top].ways[letter][self._length]

    def total(self):
        """The number of transfers."""
        if self._length == 0:
            return self._pieces[self._tree.top].empty
        return sum([self.begun_with(letter) for letter in LETTERS])

    def _top_weights(self):
        """The weights of the runs of the whole tree: only those of the right length count."""
        return [0] * self._length + [1]

    def _weights(self, fork, side, letter, weights):
        """The weights of the runs of a side of the fork that begin with the letter, from those of the fork."""
        left, right = [self._pieces[node] for node in self._tree.sides(fork)]
        part, other = (left, right) if side == "L" else (right, left)
        found = [0] * (self._length + 1)
        if letter == "l" and self._start[fork] == side:
            return found
        ends = allowed_ends(side, self._end[fork])
        if stays_alone(part, letter, other, ends):
            found = list(weights)
        for seam in seams_of(part, letter, other, ends):
            found = added(found, seam.shared(weights, self._length, self._triangle))
        return found

    def _begun_left(self, fork, letter, weights):
        """The number of transfers that begin on the left side of the fork, from the weights of that side."""
        left, _ = self._tree.sides(fork)
        return sum([many * weight for many, weight in zip(self._pieces[left].ways[letter], weights)])

    def slot_at(self, letter, rank):
        """The slot of the first line of the transfer with this rank among those that begin with the letter.

        A tuple of the slot and the rank among the transfers that begin with this line.
        """
        weights = self._top_weights()
        kind, number = self._tree.top
        while kind == "fork":
            left, right = self._tree.sides(number)
            on_left = self._weights(number, "L", letter, weights)
            begun = self._begun_left(number, letter, on_left)
            if rank < begun:
                weights = on_left
                kind, number = left
            else:
                rank = rank - begun
                weights = self._weights(number, "R", letter, weights)
                kind, number = right
        return number, rank

    def begun_below(self, letter, slot):
        """The number of transfers that begin with the letter at a slot with a lower number."""
        total = 0
        weights = self._top_weights()
        for fork, side in self._tree.path(slot):
            if side == "R":
                total = total + self._begun_left(fork, letter, self._weights(fork, "L", letter, weights))
            weights = self._weights(fork, side, letter, weights)
        return total

    def behind(self, letter, slot):
        """The loom behind a line with the letter at the slot."""
        length = self._length - 1
        pieces = {node: self._pieces[node] for node in self._pieces}
        changed = letter == "l"
        if changed:
            pieces[("slot", slot)] = slot_piece(False, length)
        for fork, side in self._tree.path(slot)[::-1]:
            changed = changed or self._start[fork] != side
            if changed:
                left, right = [pieces[node] for node in self._tree.sides(fork)]
                pieces[("fork", fork)] = fork_piece(left, right, side, self._end[fork], length, self._triangle)
        start = turned(self._tree, self._start, slot)
        return PlanLoom(self._tree, start, self._end, length, pieces, self._triangle)


def plan_loom(tree, start, end, renewed, length):
    """The loom of the transfers of so many lines; nothing is checked."""
    triangle = [[choose(total, taken) for taken in range(total + 1)] for total in range(length + 2)]
    pieces = {("slot", slot): slot_piece(slot in renewed, length) for slot in range(len(tree))}
    for fork in tree.walk(last=True):
        left, right = [pieces[node] for node in tree.sides(fork)]
        pieces[("fork", fork)] = fork_piece(left, right, start[fork], end[fork], length, triangle)
    return PlanLoom(tree, start, end, length, pieces, triangle)
