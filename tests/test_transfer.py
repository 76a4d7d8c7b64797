"""lastside.transfer: points 21, 22 and 23."""

import itertools
import random
import unittest

from lastside.errors import InvalidLine
from lastside.transfer import is_need_table, is_transfer, least_requests, need_table
from lastside.trees import Tree
from tests.case import Case, alike
from tests.plain import STRANGE, Plain, large_texts, size, texts_up_to, written
from tests.test_openings import forks_of
from tests.test_runs import random_pattern
from tests.wrong import TEXT, check_wrong, variations


def least_lines(plain, start, end, renewed):
    """The least numbers of lines of a transfer by its first kind ("hit", "load", or None without a line).

    It is found by a search over the flags, the slots that are still to be loaded, and the first kind.
    """
    found = {}
    ends = set(plain.fitting(end))
    states = {(flags, frozenset(renewed), None) for flags in plain.fitting(start)}
    seen = set(states)
    length = 0
    while states:
        following = set()
        for flags, left, first in states:
            if not left and flags in ends:
                found.setdefault(first, length)
            victim = plain.victim(flags)
            for slot in range(plain.slots):
                following.add((plain.after(flags, slot), left, first or "hit"))
            if victim in left:
                following.add((plain.after(flags, victim), left - {victim}, first or "load"))
        states = following - seen
        seen |= states
        length += 1
    return found


def plain_table(plain, start, end, renewed):
    """The need table by searches below each fork."""
    table = []
    for fork, shape, first in forks_of(plain.shape):
        last = first + size(shape)
        inner = [slot - first for slot in renewed if first <= slot < last]
        found = least_lines(Plain(written(shape)), start[first:last - 1], end[first:last - 1], inner)
        table.append((fork, len(inner), found.get("load"), found.get("hit"), None in found))
    return table


def some_transfers(slots, many):
    """Trees with a start, an end and renewed slots."""
    chance = random.Random(51)
    for text in texts_up_to(slots):
        plain = Plain(text)
        for _ in range(many):
            renewed = [slot for slot in range(plain.slots) if chance.random() < 0.5]
            chance.shuffle(renewed)
            letters = chance.choice(["LR", "LR?", "LR??"])
            yield plain, random_pattern(chance, plain.forks, letters), random_pattern(chance, plain.forks, letters), renewed


class NeedTest(Case):
    def test_searches(self):
        for plain, start, end, renewed in some_transfers(5, 8):
            tree = Tree(plain.text)
            found = least_lines(plain, start, end, renewed)
            self.exactly(least_requests(tree, start, end, renewed), min(found.values()))
            table = plain_table(plain, start, end, renewed)
            self.exactly(need_table(tree, start, end, renewed), table)
            self.exactly(is_need_table(tree, start, end, renewed, table), True)

    def test_all_of_a_small_tree(self):
        for text in ("(..)", "(.(..))", "((..).)"):
            tree, plain = Tree(text), Plain(text)
            for start, end in itertools.product(plain.all_patterns(), repeat=2):
                for many in range(plain.slots + 1):
                    for renewed in itertools.combinations(range(plain.slots), many):
                        found = least_lines(plain, start, end, renewed)
                        self.exactly(least_requests(tree, start, end, list(renewed)), min(found.values()))
                        self.exactly(need_table(tree, start, end, list(renewed)),
                                     plain_table(plain, start, end, renewed))

    def test_the_example(self):
        tree = Tree(TEXT)
        least = [least_requests(tree, "LLL", "???", renewed) for renewed in ([0], [3], [0, 1])]
        self.exactly(least, [3, 1, 4])
        self.exactly(need_table(tree, "LLL", "???", [0]),
                     [(0, 1, None, 2, False), (2, 0, None, 1, True), (1, 1, None, 3, False)])

    def test_edges(self):
        one = Tree(".")
        self.exactly([least_requests(one, "", "", []), least_requests(one, "", "", [0])], [0, 1])
        self.exactly([need_table(one, "", "", []), need_table(one, "", "", [0])], [[], []])
        self.exactly(is_need_table(one, "", "", [0], []), True)
        tree = Tree(TEXT)
        self.exactly(least_requests(tree, "L?R", "?LR", []), 0)
        self.exactly(need_table(tree, "L?R", "?LR", []), [(0, 0, None, 1, True), (2, 0, None, 1, True), (1, 0, None, 1, True)])
        self.exactly(least_requests(tree, "LLL", "LLR", []), 2)

    def test_large_trees(self):
        chance = random.Random(52)
        turned = {"L": "R", "R": "L", "?": "?"}
        for text in large_texts():
            tree = Tree(text)
            start, end = random_pattern(chance, 63), random_pattern(chance, 63)
            renewed = chance.sample(range(64), 20)
            least = least_requests(tree, start, end, renewed)
            table = need_table(tree, start, end, renewed)
            self.assertEqual([row[0] for row in table], list(tree.walk(last=True)))
            self.assertEqual(min(part for part in table[-1][2:4] if part is not None), least)
            self.assertGreaterEqual(least, 20)
            other = ["".join(turned[flag] for flag in reversed(flags)) for flags in (start, end)]
            self.assertEqual(least_requests(tree.mirrored(), *other, [63 - slot for slot in renewed]), least)
            self.exactly(is_need_table(tree, start, end, renewed, table), True)
        even = Tree.even(6)
        self.exactly(least_requests(even, "?" * 63, "?" * 63, list(range(64))), 64)

    def test_tables_with_one_thing_changed(self):
        tree = Tree(TEXT)
        for start, end, renewed in [("LLL", "???", [0]), ("R?L", "LRL", [1, 2]), ("???", "???", [])]:
            table = need_table(tree, start, end, renewed)
            self.exactly(is_need_table(tree, start, end, renewed, list(table)), True)
            for other in variations(table) + STRANGE:
                self.assertIs(is_need_table(tree, start, end, renewed, other), alike(other, table), other)


class TransferTest(Case):
    def right(self, plain, start, end, renewed, run):
        loads = [slot for kind, slot in run if kind == "load"]
        return sorted(loads) == sorted(renewed) and plain.outcomes(start, run, end) != []

    def test_all_short_runs(self):
        chance = random.Random(53)
        for text in texts_up_to(3):
            tree, plain = Tree(text), Plain(text)
            lines = [(kind, slot) for kind in ("hit", "load") for slot in range(plain.slots)]
            for length in range(4):
                for run in itertools.product(lines, repeat=length):
                    run = list(run)
                    loads = sorted({slot for kind, slot in run if kind == "load"})
                    other = [slot for slot in range(plain.slots) if chance.random() < 0.5]
                    for renewed in (loads, loads[::-1], loads[1:], other):
                        start, end = random_pattern(chance, plain.forks), random_pattern(chance, plain.forks)
                        self.exactly(is_transfer(tree, start, end, renewed, run),
                                     self.right(plain, start, end, renewed, run))

    def test_walks(self):
        chance = random.Random(54)
        answers = []
        for plain, start, end, _ in some_transfers(5, 20):
            tree = Tree(plain.text)
            flags = chance.choice(plain.fitting(start))
            run = []
            for _ in range(chance.randrange(7)):
                victim = plain.victim(flags)
                loaded = [slot for kind, slot in run if kind == "load"]
                run.append(("load", victim) if victim not in loaded else ("hit", chance.randrange(plain.slots)))
                flags = plain.after(flags, run[-1][1])
            renewed = [slot for kind, slot in run if kind == "load"]
            near = "".join(chance.choice([flag, flag, "?"]) for flag in flags)
            for last in (end, near):
                answers.append(is_transfer(tree, start, last, renewed, run))
                self.exactly(answers[-1], self.right(plain, start, last, renewed, run))
        self.assertGreater(min(answers.count(True), answers.count(False)), 100)

    def test_each_condition(self):
        tree = Tree(TEXT)
        run = [("hit", 1), ("hit", 2), ("load", 0)]
        self.exactly(is_transfer(tree, "LLL", "???", [0], run), True)
        self.exactly(is_transfer(tree, "LLL", "LLL", [0], run), True)
        self.exactly(is_transfer(tree, "LLL", "LRL", [0], run), False)
        self.exactly(is_transfer(tree, "LLL", "L?R", [0], run), False)
        self.exactly(is_transfer(tree, "LLL", "???", [], run), False)
        self.exactly(is_transfer(tree, "LLL", "???", [1], run), False)
        self.exactly(is_transfer(tree, "LLL", "???", [0, 1], run), False)
        self.exactly(is_transfer(tree, "LLL", "???", [0], run[:2]), False)
        self.exactly(is_transfer(tree, "LLL", "???", [0], run[1:]), False)
        self.exactly(is_transfer(tree, "LLL", "???", [0], run + [("hit", 3), ("hit", 1), ("hit", 3), ("load", 0)]), False)
        self.exactly(is_transfer(tree, "LLL", "???", [], []), True)
        self.exactly(is_transfer(tree, "L??", "?LR", [], []), True)
        self.exactly(is_transfer(tree, "LLL", "LLR", [], []), False)
        self.exactly(is_transfer(Tree("."), "", "", [0], [("hit", 0), ("load", 0)]), True)
        self.exactly(is_transfer(Tree("."), "", "", [0], [("load", 0), ("load", 0)]), False)

    def test_long_runs(self):
        for text in large_texts():
            tree, plain = Tree(text), Plain(text)
            flags, run = "L" * 63, []
            while len(run) < 1000:
                run.append(("hit", len(run) * 7 % 64))
                flags = plain.after(flags, run[-1][1])
            run[-1] = ("load", run[-1][1])
            before = "L" * 63
            for _, slot in run[:-1]:
                before = plain.after(before, slot)
            valid = plain.victim(before) == run[-1][1]
            self.exactly(is_transfer(tree, "L" * 63, flags, [run[-1][1]], run), valid)
            run[-1] = ("hit", run[-1][1])
            self.exactly(is_transfer(tree, "L" * 63, flags, [], run), True)


class ArgumentsTest(Case):
    def test_wrong_arguments(self):
        tree = Tree(TEXT)
        start, end, renewed = ("pattern", "LLL"), ("pattern", "???"), ("chosen", [3, 0])
        for function in (least_requests, need_table):
            check_wrong(self, function, ("any", tree), start, end, renewed)
        check_wrong(self, is_need_table, ("any", tree), start, end, renewed, ("any", None))
        check_wrong(self, is_transfer, ("any", tree), start, end, renewed, ("run", [("hit", 0)]))

    def test_an_end_is_a_pattern_here(self):
        for function, more in [(least_requests, ()), (need_table, ()), (is_need_table, ([],)), (is_transfer, ([],))]:
            with self.assertRaises(ValueError):
                function(Tree(TEXT), "LLL", None, [], *more)

    def test_runs_are_not_any_value(self):
        self.refuses(InvalidLine, (-1,), is_transfer, Tree(TEXT), "LLL", "LLL", [], None)
        self.refuses(InvalidLine, (1,), is_transfer, Tree(TEXT), "LLL", "LLL", [], [("load", 0), ["hit", 0]])

    def test_arguments_stay_and_tables_are_new(self):
        tree, renewed, run = Tree(TEXT), [3, 0], [("load", 3), ("hit", 1)]
        table = need_table(tree, "LLL", "???", renewed)
        is_need_table(tree, "LLL", "???", renewed, table)
        is_transfer(tree, "LLL", "???", renewed, run)
        least_requests(tree, "LLL", "???", renewed)
        self.exactly([renewed, run], [[3, 0], [("load", 3), ("hit", 1)]])
        before = list(table)
        table.clear()
        self.exactly(need_table(tree, "LLL", "???", renewed), before)


if __name__ == "__main__":
    unittest.main()
