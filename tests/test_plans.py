"""lastside.plans: point 24."""

import functools
import random
import unittest

from lastside.errors import BrokenRun, InvalidFlags, InvalidLine, InvalidNumber, InvalidSlot, TooMany
from lastside.plans import first_plan, plan_at, plan_count, plan_rank
from lastside.transfer import is_transfer, least_requests
from lastside.trees import Tree
from tests.case import Case
from tests.plain import Plain, large_texts, texts_up_to
from tests.test_runs import random_pattern, random_run
from tests.test_transfer import least_lines, some_transfers
from tests.wrong import BIG, TEXT, check_wrong

LINES = [("hit", 1), ("hit", 2), ("load", 0)]


def plain_plans(plain, start, end, renewed, length):
    """All transfers of one length in order, by trying all lines: the flags that are possible are followed."""
    ends = set(plain.fitting(end))

    def rest(states, left, run):
        if len(run) == length:
            return [run] if not left and states & ends else []
        found = []
        for slot in range(plain.slots):
            found += rest({plain.after(flags, slot) for flags in states}, left, run + [("hit", slot)])
        for slot in sorted(left):
            free = {plain.after(flags, slot) for flags in states if plain.victim(flags) == slot}
            if free:
                found += rest(free, left - {slot}, run + [("load", slot)])
        return found
    return rest(set(plain.fitting(start)), frozenset(renewed), [])


def counted(plain, start, end, renewed, length):
    """The number of transfers of one length, counted line by line: a `?` in the flags is an unknown side."""
    @functools.lru_cache(None)
    def rest(flags, left, lines):
        if lines == 0:
            return int(not left and all(side == last or "?" in (side, last) for side, last in zip(flags, end)))
        total = 0
        for slot, path in enumerate(plain.paths):
            after = plain.after(flags, slot)
            total += rest(after, left, lines - 1)
            if slot in left and all(flags[fork] != side for fork, side in path):
                total += rest(after, left - {slot}, lines - 1)
        return total
    return rest(start, frozenset(renewed), length)


def random_transfer(chance, plain, length):
    """Flags and a run of so many lines that is valid from them and loads no slot twice, and the flags behind it."""
    start = flags = random_pattern(chance, plain.forks, "LR")
    run, loaded = [], set()
    while len(run) < length:
        victim = plain.victim(flags)
        if victim not in loaded and chance.random() < 0.5:
            run.append(("load", victim))
            loaded.add(victim)
        else:
            run.append(("hit", chance.randrange(plain.slots)))
        flags = plain.after(flags, run[-1][1])
    return start, run, flags


class SmallTest(Case):
    def check(self, plain, start, end, renewed, length):
        tree = Tree(plain.text)
        right = plain_plans(plain, start, end, renewed, length)
        self.exactly(plan_count(tree, start, end, renewed, length), len(right))
        for rank in sorted({0, 1, 2, len(right) // 2, len(right) - 2, len(right) - 1} & set(range(len(right)))):
            self.exactly(plan_at(tree, start, end, renewed, length, rank), right[rank])
            self.exactly(plan_rank(tree, start, end, right[rank]), rank)
        for rank in (len(right), len(right) + 1, BIG):
            self.refuses(InvalidNumber, (rank,), plan_at, tree, start, end, renewed, length, rank)
        return right

    def test_all_lines_tried(self):
        found = 0
        for plain, start, end, renewed in some_transfers(5, 6):
            tree = Tree(plain.text)
            least = min(least_lines(plain, start, end, renewed).values())
            for length in range(5 if plain.slots < 4 else 4):
                right = self.check(plain, start, end, renewed, length)
                found += len(right) > 3
                self.assertEqual(len(right) > 0, length >= least)
                if length == least:
                    self.exactly(first_plan(tree, start, end, renewed), right[0])
        self.assertGreater(found, 30)

    def test_every_rank_of_small_trees(self):
        for text, start, end, renewed in [("(..)", "?", "L", [0]), ("(.(..))", "L?", "??", [2, 1]), (TEXT, "LLL", "???", [0]),
                                          ("((..).)", "RL", "LR", []), (TEXT, "?R?", "L??", [1, 3])]:
            tree, plain = Tree(text), Plain(text)
            for length in range(5):
                for rank, run in enumerate(plain_plans(plain, start, end, renewed, length)):
                    self.exactly(plan_at(tree, start, end, renewed, length, rank), run)
                    self.exactly(plan_rank(tree, start, end, run), rank)

    def test_all_states_of_a_small_tree(self):
        for text in ("(..)", "(.(..))"):
            plain = Plain(text)
            for start in plain.all_patterns():
                for end in plain.all_patterns():
                    for renewed in ([], [0], [plain.slots - 1, 0]):
                        self.check(plain, start, end, renewed, 3)

    def test_middle_size(self):
        chance = random.Random(61)
        for text in texts_up_to(7, low=6)[::8]:
            tree, plain = Tree(text), Plain(text)
            start, run, flags = random_transfer(chance, plain, 12)
            renewed = [slot for kind, slot in run if kind == "load"]
            start = "".join(chance.choice([flag, "?"]) for flag in start)
            for end in (flags, "?" * plain.forks, "".join(chance.choice([flag, "?"]) for flag in flags)):
                total = counted(plain, start, end, renewed, 12)
                self.assertGreater(total, 0)
                self.exactly(plan_count(tree, start, end, renewed, 12), total)
                rank = plan_rank(tree, start, end, run)
                self.exactly(plan_at(tree, start, end, renewed, 12, rank), run)
            self.exactly(plan_count(tree, start, random_pattern(chance, plain.forks), renewed, 12) >= 0, True)

    def test_the_example(self):
        tree = Tree(TEXT)
        self.exactly(first_plan(tree, "LLL", "???", [0]), LINES)
        self.exactly(plan_count(tree, "LLL", "???", [0], 2), 0)
        self.exactly(plan_rank(tree, "LLL", "???", LINES), 0)
        self.exactly(plan_at(tree, "LLL", "???", [0], 3, 0), LINES)


class EdgesTest(Case):
    def test_one_slot(self):
        tree = Tree(".")
        for length in (0, 1, 2, 60):
            self.exactly(plan_count(tree, "", "", [], length), 1)
            self.exactly(plan_at(tree, "", "", [], length, 0), [("hit", 0)] * length)
            self.exactly(plan_count(tree, "", "", [0], length), length)
            for rank in range(length):
                # The load stands last in the first transfer.
                run = [("hit", 0)] * (length - 1 - rank) + [("load", 0)] + [("hit", 0)] * rank
                self.exactly(plan_at(tree, "", "", [0], length, rank), run)
                self.exactly(plan_rank(tree, "", "", run), rank)
            self.refuses(InvalidNumber, (length,), plan_at, tree, "", "", [0], length, length)
        self.exactly([first_plan(tree, "", "", []), first_plan(tree, "", "", [0])], [[], [("load", 0)]])

    def test_length_zero(self):
        tree = Tree(TEXT)
        for start, end, many in [("LLL", "LLL", 1), ("L?R", "?LR", 1), ("LLL", "LLR", 0), ("???", "LRL", 1), ("RLL", "L??", 0)]:
            self.exactly(plan_count(tree, start, end, [], 0), many)
            self.exactly(plan_count(tree, start, end, [2], 0), 0)
            if many:
                self.exactly(plan_at(tree, start, end, [], 0, 0), [])
                self.exactly(plan_rank(tree, start, end, []), 0)
                self.exactly(first_plan(tree, start, end, []), [])
            self.refuses(InvalidNumber, (many,), plan_at, tree, start, end, [], 0, many)
        self.refuses(BrokenRun, (0, 2), plan_rank, tree, "LLL", "LLR", [])

    def test_an_empty_part_that_does_not_fit_the_end(self):
        tree, plain = Tree(TEXT), Plain(TEXT)
        for start, end in [("LLL", "LLR"), ("LLL", "RLR"), ("L?L", "?LR"), ("LL?", "LLR")]:
            for length in range(4):
                self.exactly(plan_count(tree, start, end, [0], length), len(plain_plans(plain, start, end, [0], length)))

    def test_a_slot_may_be_hit_before_it_is_renewed(self):
        tree = Tree("(..)")
        right = [[("hit", 0), ("hit", 0), ("load", 1)], [("hit", 0), ("load", 1), ("hit", 0)], [("hit", 0), ("load", 1), ("hit", 1)],
                 [("hit", 1), ("hit", 0), ("load", 1)], [("load", 1), ("hit", 0), ("hit", 0)], [("load", 1), ("hit", 0), ("hit", 1)],
                 [("load", 1), ("hit", 1), ("hit", 0)], [("load", 1), ("hit", 1), ("hit", 1)]]
        self.exactly(plan_count(tree, "L", "?", [1], 3), 8)
        self.exactly([plan_at(tree, "L", "?", [1], 3, rank) for rank in range(8)], right)
        self.exactly([plan_rank(tree, "L", "?", run) for run in right], list(range(8)))


class LargeTest(Case):
    def test_ranks_of_large_plans(self):
        chance = random.Random(62)
        for text in large_texts():
            tree, plain = Tree(text), Plain(text)
            start, run, flags = random_transfer(chance, plain, 60)
            renewed = [slot for kind, slot in run if kind == "load"]
            self.assertGreater(plan_count(tree, start, flags, renewed, 60), 10 ** 20)
            rank = plan_rank(tree, start, flags, run)
            self.exactly(plan_at(tree, start, flags, renewed, 60, rank), run)
            total = plan_count(tree, start, "?" * 63, renewed, 60)
            ranks = [0, chance.randrange(total), total - 1]
            made = [plan_at(tree, start, "?" * 63, renewed, 60, rank) for rank in sorted(ranks)]
            self.assertEqual(made, sorted(made))
            for one in made:
                self.assertIs(is_transfer(tree, start, "?" * 63, renewed, one), True)
            self.exactly(plan_rank(tree, start, "?" * 63, made[1]), ranks[1])
            self.refuses(InvalidNumber, (total,), plan_at, tree, start, "?" * 63, renewed, 60, total)

    def test_hits_alone(self):
        # Without an end and without loads every row of hits is a transfer.
        for text in large_texts()[:2]:
            tree = Tree(text)
            self.exactly(plan_count(tree, "LR?" * 21, "?" * 63, [], 60), 64 ** 60)
            rank = random.Random(63).randrange(64 ** 60)
            run = plan_at(tree, "LR?" * 21, "?" * 63, [], 60, rank)
            self.assertEqual(sum(slot * 64 ** place for place, (_, slot) in enumerate(reversed(run))), rank)
            self.exactly(plan_rank(tree, "LR?" * 21, "?" * 63, run), rank)

    def test_first_plans(self):
        chance = random.Random(64)
        for text in large_texts():
            tree, plain = Tree(text), Plain(text)
            start, run, flags = random_transfer(chance, plain, 30)
            renewed = [slot for kind, slot in run if kind == "load"]
            least = least_requests(tree, start, flags, renewed)
            plan = first_plan(tree, start, flags, renewed)
            self.assertEqual(len(plan), least)
            self.assertLessEqual(least, 30)
            self.assertIs(is_transfer(tree, start, flags, renewed, plan), True)
            self.exactly(plan_rank(tree, start, flags, plan), 0)
            self.exactly([plan_count(tree, start, flags, renewed, length) > 0 for length in (least - 1, least, 60)],
                         [False, True, True])

    def test_mirrored_trees_have_as_many_plans(self):
        chance = random.Random(65)
        turned = {"L": "R", "R": "L", "?": "?"}
        for text in large_texts():
            tree, plain = Tree(text), Plain(text)
            start, run, flags = random_transfer(chance, plain, 40)
            renewed = [slot for kind, slot in run if kind == "load"]
            other = ["".join(turned[flag] for flag in reversed(marks)) for marks in (start, flags)]
            self.assertEqual(plan_count(tree, start, flags, renewed, 40),
                             plan_count(tree.mirrored(), other[0], other[1], [63 - slot for slot in renewed], 40))


class LimitsTest(Case):
    def test_a_least_length_above_sixty(self):
        comb = Tree.comb(64)
        # If all forks above the slot block it, each of them takes a hit on its other side.
        for slot, least in [(57, 59), (58, 60), (59, 61), (63, 64)]:
            flags = ("R" * slot + "L" * 63)[:63]
            self.exactly(least_requests(comb, flags, "?" * 63, [slot]), least)
            if least <= 60:
                plan = [("hit", other) for other in ([slot + 1] + list(range(slot))[::-1])] + [("load", slot)]
                self.exactly(first_plan(comb, flags, "?" * 63, [slot]), plan)
            else:
                self.refuses(TooMany, (60,), first_plan, comb, flags, "?" * 63, [slot])
                self.exactly(plan_count(comb, flags, "?" * 63, [slot], 60), 0)
        flags = "L" * 63
        self.refuses(TooMany, (60,), first_plan, comb, flags, "R" * 63, list(range(64)))
        self.refuses(InvalidSlot, (64,), first_plan, comb, flags, "R" * 63, list(range(65)))
        self.refuses(InvalidFlags, ("L",), first_plan, comb, flags, "L", list(range(64)))

    def test_sixty_and_sixty_one_lines(self):
        tree = Tree(TEXT)
        self.exactly(plan_rank(tree, "???", "???", [("hit", 3)] * 60), 4 ** 60 - 1)
        self.refuses(TooMany, (60,), plan_rank, tree, "???", "???", [("hit", 3)] * 61)
        self.refuses(TooMany, (60,), plan_rank, tree, "LLL", "LLL", [("load", 0)] * 61)
        self.refuses(InvalidLine, (61,), plan_rank, tree, "LLL", "LLL", [("load", 0)] * 61 + [None])
        self.refuses(InvalidFlags, ("R",), plan_rank, tree, "LLL", "R", [("load", 0)] * 61)
        self.exactly(plan_count(tree, "LLL", "???", [0], 60) > 4 ** 50, True)
        for length in (61, 62, BIG, -1, True):
            self.refuses(InvalidNumber, (length,), plan_count, tree, "LLL", "???", [0], length)
            self.refuses(InvalidNumber, (length,), plan_at, tree, "LLL", "???", [0], length, -1)

    def test_the_order_of_broken_runs(self):
        tree = Tree(TEXT)
        one = [("load", 3), ("load", 1), ("load", 2), ("load", 0)]
        self.exactly(plan_rank(tree, "LLL", "???", one), 0)
        self.refuses(BrokenRun, (4, -1), plan_rank, tree, "LLL", "???", one + [("load", 3)])
        # A wrong line behind a slot that is loaded again comes first, and that before the end.
        self.refuses(BrokenRun, (5, 1), plan_rank, tree, "LLL", "LLL", one + [("load", 3), ("load", 3)])
        self.refuses(BrokenRun, (4, -1), plan_rank, tree, "LLL", "RRR", one + [("load", 3)])
        self.refuses(BrokenRun, (4, 0), plan_rank, tree, "LLL", "RRR", one)
        self.refuses(BrokenRun, (4, 1), plan_rank, tree, "LLL", "?RR", one)
        self.refuses(BrokenRun, (1, 1), plan_rank, tree, "???", "???", [("load", 3), ("load", 3)])
        self.refuses(BrokenRun, (1, -1), plan_rank, Tree("."), "", "", [("load", 0), ("load", 0)])

    def test_broken_runs(self):
        chance = random.Random(66)
        found = {"start": 0, "twice": 0, "end": 0, "right": 0}
        for text in texts_up_to(5):
            tree, plain = Tree(text), Plain(text)
            for number in range(40):
                start, run = random_pattern(chance, plain.forks), random_run(chance, plain.slots, chance.randrange(5))
                if number % 2:
                    start, run, _ = random_transfer(chance, plain, 3)
                    run = run + [("load", plain.victim(plain.outcome(start, run)))]
                end = random_pattern(chance, plain.forks, "LR??")
                loads = [slot for kind, slot in run if kind == "load"]
                wrong = [index for index in range(len(run)) if not plain.outcomes(start, run[:index + 1])]
                twice = [index for index, (kind, slot) in enumerate(run) if kind == "load" and ("load", slot) in run[:index]]
                if wrong:
                    found["start"] += 1
                    with self.assertRaises(BrokenRun) as caught:
                        plan_rank(tree, start, end, run)
                    self.assertEqual(caught.exception.index, wrong[0])
                    self.assertIn(caught.exception.fork, dict(plain.paths[run[wrong[0]][1]]))
                elif twice:
                    found["twice"] += 1
                    self.refuses(BrokenRun, (twice[0], -1), plan_rank, tree, start, end, run)
                elif not plain.outcomes(start, run, end):
                    found["end"] += 1
                    with self.assertRaises(BrokenRun) as caught:
                        plan_rank(tree, start, end, run)
                    self.assertEqual(caught.exception.index, len(run))
                    fork = caught.exception.fork
                    self.assertFalse(plain.outcomes(start, run, "?" * fork + end[fork] + "?" * (plain.forks - fork - 1)))
                    self.assertTrue(plain.outcomes(start, run, end[:fork] + "?" * (plain.forks - fork)))
                else:
                    found["right"] += 1
                    rank = plan_rank(tree, start, end, run)
                    self.exactly(plan_at(tree, start, end, loads, len(run), rank), run)
        self.assertGreater(min(found.values()), 30)


class ArgumentsTest(Case):
    def test_wrong_arguments(self):
        tree = Tree(TEXT)
        start, end, renewed, length = ("pattern", "LLL"), ("pattern", "???"), ("chosen", [3, 0]), ("length", 4)
        check_wrong(self, plan_count, ("any", tree), start, end, renewed, length)
        check_wrong(self, plan_at, ("any", tree), start, end, renewed, length, ("number", 0))
        check_wrong(self, plan_rank, ("any", tree), start, end, ("run", [("hit", 0)]))
        check_wrong(self, first_plan, ("any", tree), start, end, renewed)

    def test_an_end_is_a_pattern_here(self):
        tree = Tree(TEXT)
        self.refuses(InvalidFlags, (None,), plan_count, tree, "LLL", None, [], 3)
        self.refuses(InvalidFlags, (None,), plan_at, tree, "LLL", None, [], 3, 0)
        self.refuses(InvalidFlags, (None,), plan_rank, tree, "LLL", None, [])
        self.refuses(InvalidFlags, (None,), first_plan, tree, "LLL", None, [])

    def test_a_rank_that_is_too_great_comes_last(self):
        tree = Tree(TEXT)
        self.refuses(InvalidNumber, (61,), plan_at, tree, "LLL", "???", [0], 61, BIG)
        self.refuses(InvalidSlot, (4,), plan_at, tree, "LLL", "???", [4], 3, BIG)
        self.refuses(InvalidNumber, (0,), plan_at, tree, "LLL", "???", [0], 2, 0)
        self.refuses(InvalidNumber, (BIG,), plan_at, tree, "LLL", "???", [0], 60, BIG)

    def test_arguments_stay_and_runs_are_new(self):
        tree, renewed, run = Tree(TEXT), [3, 0], [("load", 3), ("hit", 1), ("load", 2)]
        total = plan_count(tree, "LLL", "???", renewed, 4)
        made = plan_at(tree, "LLL", "???", renewed, 4, total - 1)
        first = first_plan(tree, "LLL", "???", renewed)
        plan_rank(tree, "LLL", "???", run)
        self.exactly([renewed, run], [[3, 0], [("load", 3), ("hit", 1), ("load", 2)]])
        before = [list(made), list(first)]
        made.clear()
        first.clear()
        self.exactly([plan_at(tree, "LLL", "???", renewed, 4, total - 1), first_plan(tree, "LLL", "???", renewed)], before)


if __name__ == "__main__":
    unittest.main()
