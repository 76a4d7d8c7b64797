"""lastside.blocks: points 18 and 19."""

import itertools
import unittest
from math import comb

from lastside.blocks import cut_count, each_cut, least_blocks, merges
from lastside.errors import InvalidNumber, InvalidRow
from tests.case import Case
from tests.wrong import BIG, check_wrong


def all_rows(length):
    return ["".join(letters) for letters in itertools.product("hl", repeat=length)]


def all_cuts(row):
    """All cuts of a row, by trying each place."""
    if row == "":
        return [[]]
    cuts = []
    for many in range(len(row)):
        for places in itertools.combinations(range(1, len(row)), many):
            ends = [0, *places, len(row)]
            blocks = [row[begin:end] for begin, end in zip(ends, ends[1:])]
            if all("l" not in block[1:] for block in blocks):
                cuts.append(blocks)
    return cuts


def all_merges(row, other):
    """How many valid talks the rows of X and Y can be merged into, by (first side, last side)."""
    found = {}
    for places in itertools.combinations(range(len(row) + len(other)), len(row)):
        letters = {"X": list(row), "Y": list(other)}
        talk = [("X" if place in places else "Y") for place in range(len(row) + len(other))]
        lines = [(side, letters[side].pop(0)) for side in talk]
        pairs = list(zip(lines, lines[1:]))
        if all(line[1] == "h" or before[0] != line[0] for before, line in pairs):
            ends = (talk[0], talk[-1])
            found[ends] = found.get(ends, 0) + 1
    return found


def least(row):
    """The least number of blocks, without the rule."""
    return min(len(cut) for cut in all_cuts(row))


class CutsTest(Case):
    def test_all_rows(self):
        for length in range(8):
            for row in all_rows(length):
                cuts = all_cuts(row)
                self.exactly(least_blocks(row), min(len(cut) for cut in cuts))
                for blocks in range(length + 3):
                    right = sorted([cut for cut in cuts if len(cut) == blocks],
                                   key=lambda cut: [len(block) for block in cut])
                    self.exactly(cut_count(row, blocks), len(right))
                    self.exactly(list(each_cut(row, blocks)), right)

    def test_the_empty_row(self):
        self.exactly(least_blocks(""), 0)
        self.exactly([cut_count("", 0), cut_count("", 1), cut_count("", BIG)], [1, 0, 0])
        self.exactly([list(each_cut("", 0)), list(each_cut("", 1)), list(each_cut("", BIG))], [[[]], [], []])

    def test_large_rows(self):
        row = "h" * 500 + "l" * 100 + "h" * 400
        self.exactly(least_blocks(row), 101)
        self.exactly(cut_count(row, 300), comb(899, 199))
        self.exactly([cut_count(row, 100), cut_count(row, 1000), cut_count(row, 1001), cut_count(row, BIG)], [0, 1, 0, 0])
        self.exactly(list(each_cut(row, 1000)), [list(row)])
        self.exactly(list(each_cut(row, BIG)), [])
        cuts = list(itertools.islice(each_cut(row, 300), 3))
        self.assertEqual([[len(block) for block in cut[:201]] for cut in cuts[:1]], [[1] * 199 + [301] + [1]])
        for cut in cuts:
            self.assertEqual(("".join(cut), len(cut)), (row, 300))
        self.assertLess([len(block) for block in cuts[0]], [len(block) for block in cuts[1]])

    def test_a_cut_that_is_changed(self):
        cuts = []
        for cut in each_cut("hhhl", 3):
            cuts.append(list(cut))
            cut.clear()
        self.exactly(cuts, [["h", "hh", "l"], ["hh", "h", "l"]])


class MergesTest(Case):
    def test_rows_that_exist(self):
        for row in [row for length in range(1, 5) for row in all_rows(length)]:
            for other in [other for length in range(5) for other in all_rows(length)]:
                found = all_merges(row, other)
                numbers = (len(row), least(row), len(other), least(other))
                self.exactly(merges(*numbers, same=True), found.get(("X", "X"), 0))
                self.exactly(merges(*numbers, same=False), found.get(("X", "Y"), 0))

    def test_the_formula_for_all_numbers(self):
        def choices(total, taken):
            return comb(total, taken) if 0 <= taken <= total else 0
        for n, q, others, r in itertools.product(range(1, 6), range(7), range(1, 6), range(7)):
            total = n - q + others - r
            self.exactly(merges(n, q, others, r, same=False), choices(total, n - r))
            self.exactly(merges(n, q, others, r, same=True), choices(total, n - r - 1))

    def test_no_other_line(self):
        for length, fewest, other in itertools.product([1, 2, 9, 1000], [0, 1, 2, 9], [0, 1, 5]):
            self.exactly(merges(length, fewest, 0, other, same=True), int(fewest == 1))
            self.exactly(merges(length, fewest, 0, other, same=False), 0)

    def test_large_numbers(self):
        self.exactly(merges(1000, 300, 1000, 500, same=False), comb(1200, 500))
        self.exactly(merges(1000, 300, 1000, 500, same=True), comb(1200, 499))
        self.exactly(merges(1000, 1000, 1000, 1000, same=False), 1)
        self.exactly(merges(1000, 1000, 1000, 1000, same=True), 0)


class ArgumentsTest(Case):
    def test_wrong_arguments(self):
        check_wrong(self, least_blocks, ("row", "h"))
        check_wrong(self, cut_count, ("row", "h"), ("number", 1))
        check_wrong(self, each_cut, ("row", "h"), ("number", 1))
        for same in (True, False):
            def merged(*numbers):
                return merges(*numbers, same=same)
            check_wrong(self, merged, ("positive", 2), ("number", 1), ("number", 2), ("number", 1))
        self.refuses(InvalidNumber, (0,), merges, 0, 0, 0, 0, same=True)

    def test_the_row_is_one_row(self):
        for value in (["h"], ["h", "l"], ("h",), None):
            self.refuses(InvalidRow, (0,), least_blocks, value)


if __name__ == "__main__":
    unittest.main()
