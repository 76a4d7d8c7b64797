"""lastside.searching: point 56."""

import itertools
import os
import random
import unittest

from lastside.errors import InvalidFlags, InvalidNumber, InvalidRow, InvalidSlot, TooMany
from lastside.hitplans import hit_plan_count
from lastside.mostloads import most_loads
from lastside.searching import dearest, search_hits, search_least, search_most_loads, search_weavings
from lastside.trails import least_hits
from lastside.transfer import least_requests
from lastside.trees import Tree
from lastside.weaving import each_weaving, weaving_count
from tests.case import Case
from tests.plain import Plain, orders, texts_up_to
from tests.test_holding import subsets
from tests.test_runs import random_pattern
from tests.wrong import TEXT, check_wrong

FOLDER = os.path.join(os.path.dirname(os.path.dirname(os.path.abspath(__file__))), "lastside")


def valid_runs(plain, flags, most):
    """All valid runs with at most so many lines, the shorter ones first: tuples (run, flags behind it)."""
    rows = [([], flags)]
    for run, behind in rows:
        if len(run) < most:
            lines = [("hit", slot) for slot in range(plain.slots)] + [("load", plain.victim(behind))]
            rows += [(run + [line], plain.after(behind, line[1])) for line in lines]
    return rows


class LeastTest(Case):
    def test_all_runs(self):
        for text in ("(..)", "((..).)", "(.(..))"):
            tree, plain = Tree(text), Plain(text)
            for flags in plain.all_flags():
                best = {}
                for run, behind in valid_runs(plain, flags, 6):
                    loaded = tuple(sorted({slot for kind, slot in run if kind == "load"}))
                    best.setdefault((behind, loaded), len(run))
                for renewed in subsets(plain.slots):
                    for end in plain.all_patterns() + [None]:
                        rows = [best[behind, tuple(renewed)] for behind in (plain.fitting(end) if end else plain.all_flags())
                                if (behind, tuple(renewed)) in best]
                        self.exactly(search_least(tree, flags, end, renewed[::-1]), min(rows))

    def test_against_the_rules(self):
        chance = random.Random(261)
        for text in texts_up_to(5):
            tree, plain = Tree(text), Plain(text)
            for _ in range(12 if plain.slots > 3 else 40):
                flags, end = random_pattern(chance, plain.forks, "LR"), random_pattern(chance, plain.forks)
                renewed = chance.sample(range(plain.slots), chance.randrange(plain.slots + 1))
                self.exactly(search_least(tree, flags, end, renewed), least_requests(tree, flags, end, renewed))
                self.exactly(search_least(tree, flags, None, renewed), least_requests(tree, flags, "?" * plain.forks, renewed))

    def test_edges(self):
        self.exactly([search_least(Tree("."), "", None, []), search_least(Tree("."), "", "", [0])], [0, 1])
        self.exactly([search_least(Tree(TEXT), "LLL", None, [0]), search_least(Tree(TEXT), "LLL", None, [3]),
                      search_least(Tree(TEXT), "LLL", "???", [0, 1]), search_least(Tree(TEXT), "LLL", "LLL", []),
                      search_least(Tree(TEXT), "LLL", "RRR", [])], [3, 1, 4, 0, 2])

    def test_dearest(self):
        self.exactly([dearest(Tree("."))], [1])
        for text in texts_up_to(4):
            tree, plain = Tree(text), Plain(text)
            rows = [least_requests(tree, flags, end, renewed) for flags in plain.all_flags() for end in plain.all_flags()
                    for renewed in subsets(plain.slots)]
            self.exactly(dearest(tree), max(rows))
        for text in ("((..)(.(..)))", Tree.comb(5).text):
            tree, plain = Tree(text), Plain(text)
            rows = [least_requests(tree, flags, end, renewed) for flags in plain.all_flags() for end in plain.all_flags()
                    for renewed in subsets(5)]
            self.exactly(dearest(tree), max(rows))
            self.exactly(dearest(tree.mirrored()), max(rows))


class HitsTest(Case):
    def test_all_rows(self):
        for text in texts_up_to(4):
            tree, plain = Tree(text), Plain(text)
            for flags in plain.all_flags():
                found = {}
                for many in range(plain.slots + 1):
                    for row in itertools.product(range(plain.slots), repeat=many):
                        behind = flags
                        for slot in row:
                            behind = plain.after(behind, slot)
                        if found.setdefault(behind, [many, 0])[0] == many:
                            found[behind][1] += 1
                self.exactly(search_hits(tree, flags), sorted((behind, number, rows) for behind, (number, rows) in found.items()))

    def test_against_the_rules(self):
        for text in texts_up_to(5):
            tree, plain = Tree(text), Plain(text)
            for flags in plain.all_flags():
                right = [(end, least_hits(tree, flags, end), hit_plan_count(tree, flags, end)) for end in plain.all_flags()]
                self.exactly(search_hits(tree, flags), right)

    def test_one_slot(self):
        self.exactly(search_hits(Tree("."), ""), [("", 0, 1)])


class LoadsTest(Case):
    def test_all_runs(self):
        for text in texts_up_to(3):
            tree, plain = Tree(text), Plain(text)
            for flags in plain.all_flags():
                rows = valid_runs(plain, flags, 5)
                for kept in subsets(plain.slots):
                    for length in range(6):
                        loads = [sum(kind == "load" for kind, _ in run) for run, _ in rows if len(run) == length
                                 and not any(kind == "load" and slot in kept for kind, slot in run)]
                        self.exactly(search_most_loads(tree, flags, kept[::-1], length), max(loads))

    def test_against_the_rules(self):
        chance = random.Random(262)
        for text in texts_up_to(5):
            tree, plain = Tree(text), Plain(text)
            for length in (0, 1, 2, 5, 11, 12):
                flags = random_pattern(chance, plain.forks, "LR")
                kept = chance.sample(range(plain.slots), chance.randrange(plain.slots + 1))
                self.exactly(search_most_loads(tree, flags, kept, length), most_loads(tree, flags, kept, length))


class WeavingsTest(Case):
    def test_all_orders(self):
        chance = random.Random(263)
        counts = []
        for text in texts_up_to(4):
            tree, plain = Tree(text), Plain(text)
            for _ in range(14):
                rows = ["".join(chance.choice("hl") for _ in range(chance.choice([0, 1, 1, 2]))) for _ in range(plain.slots)]
                start, end = random_pattern(chance, plain.forks), chance.choice([None, random_pattern(chance, plain.forks)])
                right = [run for run in orders(rows) if plain.outcomes(start, run, end)] if sum(map(len, rows)) < 7 else None
                if right is not None:
                    counts.append(len(right))
                    self.exactly(search_weavings(tree, start, rows, end=end), right)
                    if end is None:
                        self.exactly(search_weavings(tree, start, rows), right)
        self.assertGreater(sum(counts), 100)
        self.assertIn(0, counts)

    def test_against_the_rules(self):
        chance = random.Random(264)
        for text in texts_up_to(5):
            tree, plain = Tree(text), Plain(text)
            for _ in range(6):
                letters = chance.randrange(6, 13)
                rows = [""] * plain.slots
                for _ in range(letters):
                    slot = chance.randrange(plain.slots)
                    rows[slot] += chance.choice("hlll")
                start, end = random_pattern(chance, plain.forks), chance.choice([None, random_pattern(chance, plain.forks)])
                if weaving_count(tree, start, rows, end=end) < 3000:
                    self.exactly(search_weavings(tree, start, rows, end=end), list(each_weaving(tree, start, rows, end=end)))

    def test_edges(self):
        self.exactly([search_weavings(Tree("."), "", [""]), search_weavings(Tree("."), "", ["hl"], end="")], [[[]], [[("hit", 0), ("load", 0)]]])
        self.exactly([search_weavings(Tree("(..)"), "L", ["", ""], end="R"), search_weavings(Tree("(..)"), "?", ["", ""], end="R"),
                      search_weavings(Tree("(..)"), "L", ["l", ""])], [[], [[]], []])
        self.exactly(search_weavings(Tree(TEXT), "LLL", ["hl", "l", "h", "l"])[0],
                     [("hit", 0), ("hit", 2), ("load", 1), ("load", 3), ("load", 0)])
        # One run from each of the flags.
        self.exactly(len(search_weavings(Tree(TEXT), "???", ["lll", "lll", "lll", "lll"])), 8)


class ArgumentsTest(Case):
    def test_wrong_arguments(self):
        tree = Tree(TEXT)
        flags, end, chosen, length = ("flags", "LLL"), ("end", "L?R"), ("chosen", [0, 2]), ("length", 12)
        check_wrong(self, search_least, ("any", tree), flags, end, chosen)
        check_wrong(self, search_hits, ("any", tree), flags)
        check_wrong(self, search_most_loads, ("any", tree), flags, chosen, length)
        check_wrong(self, search_weavings, ("any", tree), ("pattern", "L??"), ("rows", ["h", "", "", "l"]), end=end)
        self.refuses(InvalidFlags, ("L?L",), search_least, tree, "L?L", None, [])
        self.refuses(InvalidFlags, ("L?L",), search_most_loads, tree, "L?L", [], 3)

    def test_numbers(self):
        for value in (13, 14, 60, 10 ** 59):
            self.refuses(InvalidNumber, (value,), search_most_loads, Tree(TEXT), "LLL", [0], value)
            self.refuses(InvalidNumber, (value,), search_most_loads, Tree.comb(6), "LLLLL", [0], value)
        self.exactly(search_most_loads(Tree(TEXT), "LLL", [0], 12), most_loads(Tree(TEXT), "LLL", [0], 12))

    def test_five_and_six_slots(self):
        for tree in (Tree.comb(6), Tree("((.(..))(.(..)))"), Tree.even(3), Tree.comb(64)):
            flags, rows = "L" * tree.forks, [""] * len(tree)
            self.refuses(TooMany, (5,), search_least, tree, flags, None, [0])
            self.refuses(TooMany, (5,), search_hits, tree, flags)
            self.refuses(TooMany, (5,), search_most_loads, tree, flags, [], 0)
            self.refuses(TooMany, (5,), search_weavings, tree, flags, rows)
            self.refuses(TooMany, (5,), dearest, tree)
            # The arguments are checked first.
            self.refuses(InvalidSlot, (64,), search_least, tree, flags, None, [64])
            self.refuses(InvalidFlags, ("",), search_hits, tree, "")
            self.refuses(InvalidNumber, (None,), search_most_loads, tree, flags, [], None)
            self.refuses(InvalidRow, (-1,), search_weavings, tree, flags, [])
            self.refuses(InvalidFlags, ("",), search_weavings, tree, flags, rows, end="")
        self.exactly(len(search_hits(Tree.comb(5), "LLLL")), 16)

    def test_twelve_and_thirteen_letters(self):
        rows = ["hhh", "lll", "hhh", "lll"]
        self.exactly(len(search_weavings(Tree(TEXT), "???", rows)), weaving_count(Tree(TEXT), "???", rows))
        for more in (["hhhh", "lll", "hhh", "lll"], ["h" * 13, "", "", ""], ["h" * 900, "l", "", ""]):
            self.refuses(TooMany, (12,), search_weavings, Tree(TEXT), "???", more)
            self.refuses(TooMany, (5,), search_weavings, Tree.comb(6), "?????", more + ["", ""])
            self.refuses(InvalidFlags, ("L",), search_weavings, Tree(TEXT), "???", more, end="L")
            self.refuses(InvalidRow, (3,), search_weavings, Tree(TEXT), "???", more[:3] + ["x"])

    def test_the_searches_use_no_rules(self):
        with open(os.path.join(FOLDER, "searching.py"), encoding="utf-8") as file:
            used = {line.split()[1] for line in file if line.startswith("from ")}
        self.assertLessEqual(used, {"lastside.checks", "lastside.errors", "lastside.flags", "lastside.notation"})

    def test_lists_stay_and_are_new(self):
        rows, renewed = ["h", "l"], [1, 0]
        found = search_weavings(Tree("(..)"), "?", rows)
        old = [list(run) for run in found]
        hits = search_hits(Tree("(..)"), "L")
        search_least(Tree("(..)"), "L", None, renewed)
        search_most_loads(Tree("(..)"), "L", renewed, 3)
        self.exactly([rows, renewed], [["h", "l"], [1, 0]])
        found[0].clear()
        found.pop()
        hits.clear()
        self.exactly([search_weavings(Tree("(..)"), "?", rows), search_hits(Tree("(..)"), "L")], [old, [("L", 0, 1), ("R", 1, 1)]])


if __name__ == "__main__":
    unittest.main()
