"""lastside.mostloads: point 36."""

import itertools
import random
import unittest

from lastside.errors import InvalidNumber, InvalidSlot
from lastside.holding import bound_table
from lastside.mostloads import fewest_to_renew, most_loads, most_loads_run, most_renewed
from lastside.transfer import least_requests
from lastside.trees import Tree
from tests.case import Case
from tests.plain import Plain, large_texts, texts_up_to
from tests.test_holding import subsets
from tests.test_runs import random_pattern
from tests.wrong import BIG, TEXT, check_wrong


def plain_most(plain, start, kept, most):
    """The greatest numbers of loads in runs of 0 to `most` requests, by following all of them."""
    best = {flags: 0 for flags in plain.fitting(start)}
    found = [0]
    for _ in range(most):
        following = {}
        for flags, loads in best.items():
            victim = plain.victim(flags)
            for slot in range(plain.slots):
                more = loads + (1 if slot == victim and slot not in kept else 0)
                after = plain.after(flags, slot)
                following[after] = max(following.get(after, 0), more)
        best = following
        found.append(max(best.values()))
    return found


def plain_renewed(plain, start, kept, most):
    """The greatest numbers of different slots that 0 to `most` requests can load, by following all of them."""
    states = {(flags, frozenset()) for flags in plain.fitting(start)}
    found = []
    for _ in range(most + 1):
        found.append(max(len(loaded) for _, loaded in states))
        following = set()
        for flags, loaded in states:
            victim = plain.victim(flags)
            for slot in range(plain.slots):
                following.add((plain.after(flags, slot), loaded | {slot} if slot == victim and slot not in kept else loaded))
        states = following
    return found


def some_states(slots, many):
    """Small trees with a start and kept slots."""
    chance = random.Random(141)
    for text in texts_up_to(slots):
        plain = Plain(text)
        for _ in range(many):
            kept = [slot for slot in range(plain.slots) if chance.random() < 0.4]
            chance.shuffle(kept)
            yield plain, random_pattern(chance, plain.forks, chance.choice(["LR", "LR?", "??L"])), kept


class MostLoadsTest(Case):
    def check(self, plain, start, kept, most):
        tree = Tree(plain.text)
        for length, loads in enumerate(plain_most(plain, start, kept, most)):
            self.exactly(most_loads(tree, start, kept, length), loads)
            self.check_run(plain, start, kept, length, loads)

    def check_run(self, plain, start, kept, length, loads):
        run = most_loads_run(Tree(plain.text), start, kept, length)
        self.assertTrue(isinstance(run, list) and all(isinstance(line, tuple) for line in run))
        loaded = [slot for kind, slot in run if kind == "load"]
        self.assertEqual((len(run), len(loaded), set(loaded) & set(kept)), (length, loads, set()))
        flags = start
        for kind, slot in run:
            self.assertFalse(kind == "load" and any(flags[fork] == side for fork, side in plain.paths[slot]))
            flags = plain.after(flags, slot)

    def test_all_states_of_small_trees(self):
        for text in texts_up_to(3):
            plain = Plain(text)
            for start in plain.all_patterns():
                for kept in subsets(plain.slots):
                    self.check(plain, start, kept, 8)

    def test_some_states(self):
        for plain, start, kept in some_states(6, 5):
            self.check(plain, start, kept, 11)

    def test_one_slot(self):
        tree = Tree(".")
        for length in (0, 1, 60):
            self.exactly([most_loads(tree, "", [], length), most_loads(tree, "", [0], length)], [length, 0])
            self.exactly(most_loads_run(tree, "", [], length), [("load", 0)] * length)
            self.exactly(most_loads_run(tree, "", [0], length), [("hit", 0)] * length)

    def test_edges(self):
        tree = Tree(TEXT)
        for start in ("LLL", "R?L", "???"):
            self.exactly([most_loads(tree, start, [1], 0), most_loads_run(tree, start, [1], 0)], [0, []])
            # Loads alone are possible where no slot is kept, and none where all of them are.
            self.exactly([most_loads(tree, start, [], 60), most_loads(tree, start, [3, 2, 1, 0], 60)], [60, 0])
            self.check_run(Plain(TEXT), start, [], 60, 60)
            self.check_run(Plain(TEXT), start, [3, 2, 1, 0], 60, 0)

    def test_long_runs(self):
        for plain, start, kept in some_states(5, 2):
            loads = plain_most(plain, start, kept, 60)[60]
            self.exactly(most_loads(Tree(plain.text), start, kept, 60), loads)
            self.check_run(plain, start, kept, 60, loads)

    def test_large_trees(self):
        chance = random.Random(142)
        for text in large_texts():
            tree, plain = Tree(text), Plain(text)
            start, kept = random_pattern(chance, 63), chance.sample(range(64), 30)
            loads = most_loads(tree, start, kept, 60)
            self.check_run(plain, start, kept, 60, loads)
            _, number, parts, slack, whole = bound_table(tree, kept)[-1]
            self.assertLessEqual(loads * parts * whole, 60 * number * whole + slack * parts)
            self.exactly(most_loads(tree, start, [], 30), 30)
            # One request more has as many loads, or one more.
            self.assertIn(loads - most_loads(tree, start, kept, 59), (0, 1))
            self.assertGreaterEqual(loads, self.greedy(plain, start.replace("?", "L"), kept, 60) if "?" not in start else 0)

    def greedy(self, plain, flags, kept, length):
        """The loads of a run that loads wherever it may, and otherwise hits slot 0."""
        loads = 0
        for _ in range(length):
            victim = plain.victim(flags)
            loads += victim not in kept
            flags = plain.after(flags, 0 if victim in kept else victim)
        return loads


class RenewTest(Case):
    def check(self, plain, start, kept, most):
        tree = Tree(plain.text)
        renewed = plain_renewed(plain, start, kept, most)
        for length, many in enumerate(renewed):
            self.exactly(most_renewed(tree, start, kept, length), many)
        for count in range(plain.slots - len(kept) + 1):
            if count <= renewed[-1]:
                least = [many >= count for many in renewed].index(True)
                self.exactly(fewest_to_renew(tree, start, kept, count), least)
            else:
                self.assertGreater(fewest_to_renew(tree, start, kept, count), most)
        for count in (plain.slots - len(kept) + 1, 64, BIG, -1):
            self.refuses(InvalidNumber, (count,), fewest_to_renew, tree, start, kept, count)

    def test_all_states_of_small_trees(self):
        for text in texts_up_to(3):
            plain = Plain(text)
            for start in plain.all_patterns():
                for kept in subsets(plain.slots):
                    self.check(plain, start, kept, 7)

    def test_some_states(self):
        for plain, start, kept in some_states(6, 4):
            self.check(plain, start, kept, 9)

    def test_chosen_slots(self):
        # The slots are chosen freely, so the number is the least one over all choices of that many slots.
        for plain, start, kept in some_states(5, 3):
            tree = Tree(plain.text)
            free = [slot for slot in range(plain.slots) if slot not in kept]
            for count in range(len(free) + 1):
                least = min(least_requests(tree, start, "?" * plain.forks, list(chosen))
                            for chosen in itertools.combinations(free, count))
                self.exactly(fewest_to_renew(tree, start, kept, count), least)

    def test_edges(self):
        one, tree = Tree("."), Tree(TEXT)
        self.exactly([fewest_to_renew(one, "", [], 0), fewest_to_renew(one, "", [], 1), fewest_to_renew(one, "", [0], 0)], [0, 1, 0])
        self.exactly([most_renewed(one, "", [], 0), most_renewed(one, "", [], 60), most_renewed(one, "", [0], 60)], [0, 1, 0])
        self.refuses(InvalidNumber, (1,), fewest_to_renew, one, "", [0], 1)
        self.refuses(InvalidNumber, (2,), fewest_to_renew, one, "", [], 2)
        # On an even tree loads alone renew each slot once.
        self.exactly([fewest_to_renew(tree, "LRL", [], count) for count in range(5)], [0, 1, 2, 3, 4])
        self.exactly([most_renewed(tree, "LRL", [], length) for length in (0, 1, 3, 4, 5, 60)], [0, 1, 3, 4, 4, 4])
        self.exactly([fewest_to_renew(tree, "LLL", [3, 1, 2], count) for count in (0, 1)], [0, 3])
        self.exactly([most_renewed(tree, "LLL", [3, 1, 2, 0], length) for length in (0, 60)], [0, 0])

    def test_large_trees(self):
        chance = random.Random(143)
        for text in large_texts():
            tree = Tree(text)
            start, kept = random_pattern(chance, 63), chance.sample(range(64), 20)
            fewest = [fewest_to_renew(tree, start, kept, count) for count in (0, 1, 2, 7, 20, 43, 44)]
            self.assertEqual(fewest, sorted(fewest))
            self.exactly(fewest[-1], least_requests(tree, start, "?" * 63, [slot for slot in range(64) if slot not in kept]))
            for length in (0, 3, 30, 60):
                many = most_renewed(tree, start, kept, length)
                self.assertLessEqual(fewest_to_renew(tree, start, kept, many), length)
                if many < 44:
                    self.assertGreater(fewest_to_renew(tree, start, kept, many + 1), length)
                self.assertLessEqual(many, most_loads(tree, start, kept, length))
            self.refuses(InvalidNumber, (45,), fewest_to_renew, tree, start, kept, 45)
        self.exactly([fewest_to_renew(Tree.even(6), "L" * 63, [], count) for count in (63, 64)], [63, 64])


class ArgumentsTest(Case):
    def test_wrong_arguments(self):
        tree = Tree(TEXT)
        start, kept = ("pattern", "LLL"), ("chosen", [3, 0])
        for function in (most_loads, most_loads_run, most_renewed):
            check_wrong(self, function, ("any", tree), start, kept, ("length", 5))
        check_wrong(self, fewest_to_renew, ("any", tree), start, kept, ("number", 1))

    def test_sixty_and_sixty_one(self):
        tree = Tree(TEXT)
        for function in (most_loads, most_loads_run, most_renewed):
            function(tree, "LLL", [0], 60)
            self.refuses(InvalidNumber, (61,), function, tree, "LLL", [0], 61)
            self.refuses(InvalidSlot, (0,), function, tree, "LLL", [0, 0], 61)
        self.refuses(InvalidNumber, (3,), fewest_to_renew, tree, "LLL", [3, 0], 3)
        self.refuses(InvalidNumber, (5,), fewest_to_renew, tree, "LLL", [], 5)

    def test_kept_slots_stay_and_runs_are_new(self):
        tree, kept = Tree(TEXT), [3, 0]
        run = most_loads_run(tree, "LLL", kept, 6)
        most_loads(tree, "LLL", kept, 6)
        most_renewed(tree, "LLL", kept, 6)
        fewest_to_renew(tree, "LLL", kept, 2)
        self.exactly(kept, [3, 0])
        before = list(run)
        run.clear()
        self.exactly(most_loads_run(tree, "LLL", kept, 6), before)


if __name__ == "__main__":
    unittest.main()
