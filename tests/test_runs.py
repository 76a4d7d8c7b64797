"""lastside.runs: points 11, 12, 13 and 15."""

import itertools
import random
import unittest

from lastside.errors import BrokenRun, InvalidFlags, InvalidLine
from lastside.runs import (collapsed_run, end_pattern, first_wrong, mended, play, restricted, talk, wrong_lines)
from lastside.trees import Tree
from tests.case import Case
from tests.plain import Plain, large_texts, texts_up_to
from tests.wrong import TEXT, check_wrong


def random_run(chance, slots, length):
    return [(chance.choice(["hit", "load"]), chance.randrange(slots)) for _ in range(length)]


def random_pattern(chance, forks, letters="LR?"):
    return "".join(chance.choice(letters) for _ in range(forks))


def plain_talk(plain, run, fork):
    return [(index, dict(plain.paths[slot])[fork], kind) for index, (kind, slot) in enumerate(run)
            if fork in dict(plain.paths[slot])]


def plain_wrong(plain, start, run, index):
    """The forks at which a line is wrong, from the root down, and the indexes of the lines before it there."""
    kind, slot = run[index]
    found = []
    for fork, side in plain.paths[slot]:
        earlier = [(at, where) for at, where, _ in plain_talk(plain, run, fork) if at < index]
        before = earlier[-1] if earlier else (-1, start[fork])
        if kind == "load" and before[1] == side:
            found.append((fork, before[0]))
    return found


def some_runs():
    """Trees with a start pattern and a run: all short runs on small trees, and random ones on others."""
    for text in texts_up_to(3):
        plain = Plain(text)
        lines = [(kind, slot) for kind in ("hit", "load") for slot in range(plain.slots)]
        for length in range(4):
            for run in itertools.product(lines, repeat=length):
                for start in plain.all_patterns()[::2]:
                    yield plain, start, list(run)
    chance = random.Random(12)
    for text in texts_up_to(5, low=4):
        plain = Plain(text)
        for _ in range(25):
            yield plain, random_pattern(chance, plain.forks), random_run(chance, plain.slots, chance.randrange(9))


class ValidityTest(Case):
    def test_wrong_lines_one_by_one(self):
        for plain, start, run in some_runs():
            tree = Tree(plain.text)
            wrong = [index for index in range(len(run)) if plain_wrong(plain, start, run, index)]
            self.exactly(wrong_lines(tree, start, run), wrong)
            if wrong:
                fork, before = plain_wrong(plain, start, run, wrong[0])[0]
                self.exactly(first_wrong(tree, start, run), (wrong[0], fork, before))
                self.refuses(BrokenRun, (wrong[0], fork), play, tree, start, run)
            else:
                self.exactly(first_wrong(tree, start, run), None)
                self.exactly(play(tree, start, run), end_pattern(tree, start, run))

    def test_valid_runs_are_those_of_some_flags(self):
        for plain, start, run in some_runs():
            tree = Tree(plain.text)
            valid = plain.outcomes(start, run) != []
            self.assertEqual(first_wrong(tree, start, run) is None, valid)
            self.assertEqual(wrong_lines(tree, start, run) == [], valid)
            if not valid:
                index = first_wrong(tree, start, run)[0]
                self.assertNotEqual(plain.outcomes(start, run[:index]), [])
                self.assertEqual(plain.outcomes(start, run[:index + 1]), [])

    def test_mended_runs(self):
        for plain, start, run in some_runs():
            tree = Tree(plain.text)
            right = mended(tree, start, run)
            wrong = wrong_lines(tree, start, run)
            self.exactly(right, [("hit", slot) if index in wrong else (kind, slot)
                                 for index, (kind, slot) in enumerate(run)])
            self.assertNotEqual(plain.outcomes(start, right), [])

    def test_no_valid_run_keeps_a_wrong_load(self):
        chance = random.Random(13)
        for text in texts_up_to(4, low=2):
            plain = Plain(text)
            for _ in range(6):
                start, run = random_pattern(chance, plain.forks), random_run(chance, plain.slots, 5)
                wrong = wrong_lines(Tree(text), start, run)
                loads = [index for index, (kind, _) in enumerate(run) if kind == "load"]
                for many in range(len(loads) + 1):
                    for hits in itertools.combinations(loads, many):
                        other = [("hit", line[1]) if index in hits else line for index, line in enumerate(run)]
                        if plain.outcomes(start, other):
                            self.assertLessEqual(set(wrong), set(hits))

    def test_end_patterns(self):
        for plain, start, run in some_runs():
            tree = Tree(plain.text)
            behind = end_pattern(tree, start, run)
            sides = [plain_talk(plain, run, fork)[-1:] for fork in range(plain.forks)]
            self.exactly(behind, "".join(last[0][1] if last else start[fork] for fork, last in enumerate(sides)))
            ends = {plain.outcome(flags, [("hit", slot) for _, slot in run]) for flags in plain.fitting(start)}
            self.assertEqual(ends, set(plain.fitting(behind)))
            self.exactly(end_pattern(tree, start, [("load", slot) for _, slot in run]), behind)

    def test_the_example(self):
        tree = Tree(TEXT)
        self.exactly(first_wrong(tree, "LLL", [("load", 3), ("hit", 1), ("load", 1)]), (2, 1, 1))
        self.exactly(wrong_lines(tree, "LLL", [("load", 3), ("hit", 1), ("load", 1)]), [2])
        self.exactly(first_wrong(tree, "RRR", [("load", 3)]), (0, 1, -1))
        self.exactly(first_wrong(tree, "LLR", [("load", 3)]), (0, 2, -1))
        self.exactly(first_wrong(tree, "LLR", [("hit", 3), ("load", 0), ("load", 3)]), (1, 0, -1))
        self.exactly(first_wrong(tree, "???", [("hit", 1), ("load", 2), ("load", 1)]), (2, 0, 0))
        self.exactly(play(tree, "???", [("load", 3), ("hit", 1)]), "RLR")

    def test_a_load_that_is_wrong_at_more_than_one_fork(self):
        tree = Tree.comb(64)
        self.exactly(first_wrong(tree, "R" * 63, [("load", 63)]), (0, 0, -1))
        self.exactly(first_wrong(tree, "L" * 20 + "R" * 43, [("load", 63)]), (0, 20, -1))
        self.exactly(first_wrong(tree, "?" * 63, [("hit", 63), ("hit", 0), ("load", 63)]), (2, 1, 0))
        self.refuses(BrokenRun, (2, 1), play, tree, "?" * 63, [("hit", 63), ("hit", 0), ("load", 63), ("load", 63)])
        self.exactly(wrong_lines(tree, "R" * 63, [("load", 63), ("load", 63), ("load", 0)]), [0, 1])

    def test_empty_runs_and_one_slot(self):
        one = Tree(".")
        run = [("load", 0), ("hit", 0), ("load", 0)]
        self.exactly([first_wrong(one, "", run), wrong_lines(one, "", run), mended(one, "", run)], [None, [], run])
        self.exactly([end_pattern(one, "", run), play(one, "", run)], ["", ""])
        tree = Tree(TEXT)
        self.exactly([first_wrong(tree, "L?R", []), wrong_lines(tree, "L?R", []), mended(tree, "L?R", [])], [None, [], []])
        self.exactly([end_pattern(tree, "L?R", []), play(tree, "L?R", []), talk(tree, [], 0)], ["L?R", "L?R", []])
        self.exactly([restricted(tree, [], 0), collapsed_run(tree, [], 0)], [[], []])

    def test_long_runs_on_large_trees(self):
        chance = random.Random(14)
        for text in large_texts():
            tree, plain = Tree(text), Plain(text)
            flags = start = random_pattern(chance, 63, "LR")
            run = []
            for _ in range(1000):
                run.append(("load", plain.victim(flags)) if chance.random() < 0.7 else ("hit", chance.randrange(64)))
                flags = plain.after(flags, run[-1][1])
            self.exactly(play(tree, start, run), flags)
            run[700] = ("load", run[699][1])
            self.assertEqual(first_wrong(tree, start, run), (700, tree.top[1], 699))
            self.assertEqual(first_wrong(tree, start, mended(tree, start, run)), None)


class PartsTest(Case):
    def test_talks(self):
        for plain, _, run in some_runs():
            for fork in range(plain.forks):
                self.exactly(talk(Tree(plain.text), run, fork), plain_talk(plain, run, fork))
        self.exactly(talk(Tree(TEXT), [("load", 3), ("hit", 1), ("load", 0)], 0), [(1, "R", "hit"), (2, "L", "load")])

    def test_restricting_and_collapsing(self):
        for plain, start, run in some_runs():
            tree = Tree(plain.text)
            for fork in range(plain.forks):
                below = plain.below(fork)
                part = [(kind, below.index(slot)) for kind, slot in run if slot in below]
                self.exactly(restricted(tree, run, fork), part)
                # The slots of the collapsed tree: those outside, and one for all below the fork.
                left = [slot for slot in range(plain.slots) if slot not in below[1:]]
                whole = [(kind, left.index(below[0] if slot in below else slot)) for kind, slot in run]
                self.exactly(collapsed_run(tree, run, fork), whole)
                inner = start[below[0]:below[-1]]
                outer = start[:below[0]] + start[below[-1]:]
                both = first_wrong(tree.subtree(fork), inner, part) is None \
                    and first_wrong(tree.collapsed(fork), outer, whole) is None
                self.assertEqual(first_wrong(tree, start, run) is None, both)

    def test_one_fork_in_detail(self):
        tree = Tree("(.((..)(..)))")
        run = [("hit", 0), ("load", 1), ("hit", 2), ("load", 3), ("load", 4)]
        self.exactly(restricted(tree, run, 2), [("load", 0), ("hit", 1), ("load", 2), ("load", 3)])
        self.exactly(restricted(tree, run, 3), [("load", 0), ("load", 1)])
        self.exactly(collapsed_run(tree, run, 2), [("hit", 0), ("load", 1), ("hit", 1), ("load", 1), ("load", 1)])
        self.exactly(collapsed_run(tree, run, 1), [("hit", 0), ("load", 1), ("hit", 1), ("load", 2), ("load", 3)])


class ArgumentsTest(Case):
    def test_wrong_arguments(self):
        tree = Tree(TEXT)
        good = ("run", [("hit", 0)])
        for function in (talk, restricted, collapsed_run):
            check_wrong(self, function, ("any", tree), good, ("fork", 0))
        for function in (first_wrong, wrong_lines, mended, end_pattern, play):
            check_wrong(self, function, ("any", tree), ("pattern", "LLL"), good)

    def test_one_slot(self):
        self.refuses(InvalidLine, (0,), first_wrong, Tree("."), "", [("hit", 1)])
        self.refuses(InvalidFlags, ("L",), first_wrong, Tree("."), "L", [])

    def test_arguments_stay_and_results_are_new(self):
        tree = Tree(TEXT)
        run = [("load", 3), ("load", 3), ("hit", 1)]
        for function, arguments in [(talk, (run, 1)), (restricted, (run, 1)), (collapsed_run, (run, 0)),
                                    (wrong_lines, ("LLL", run)), (mended, ("LLL", run))]:
            result = function(tree, *arguments)
            self.assertIsNot(result, run)
            before = list(result)
            result.clear()
            self.exactly(function(tree, *arguments), before)
            self.exactly(run, [("load", 3), ("load", 3), ("hit", 1)])
        self.assertIsNot(mended(tree, "???", run[:1]), run)


if __name__ == "__main__":
    unittest.main()
