"""lastside.staying: points 31 and 32."""

import itertools
import random
import unittest

from lastside.errors import InvalidNumber
from lastside.staying import (evictable, eviction_number, eviction_numbers, eviction_plan, settling_size, thrashing)
from lastside.trees import Tree
from tests.case import Case
from tests.plain import Plain, large_texts, texts_up_to
from tests.test_runs import random_pattern
from tests.wrong import BIG, TEXT, check_wrong


def loads_by_length(plain, flags, most):
    """For each number of requests up to `most`, the slots that some run of so many requests loads."""
    states = {flags: set()}
    found = []
    seen = set()
    for _ in range(most + 1):
        found.append(sorted(seen))
        following = {}
        for state in states:
            seen = seen | {plain.victim(state)}
            for slot in range(plain.slots):
                following[plain.after(state, slot)] = set()
        states = following
    return found


def plain_plan(plain, flags, slot):
    """The eviction plan by the words of point 31."""
    path = plain.paths[slot]
    blocked = [place for place, (fork, side) in enumerate(path) if flags[fork] == side]
    run = []
    for fork, side in reversed(path[:blocked[-1] + 1] if blocked else []):
        others = [other for other, steps in enumerate(plain.paths) if fork in dict(steps) and dict(steps)[fork] != side]
        run.append(("hit", min(others)))
    return run + [("load", slot)]


def helpers_of(plain):
    """The slot of the thrashing example and its helpers, by the words of point 32."""
    least = min(len(path) for path in plain.paths)
    slot = [len(path) for path in plain.paths].index(least)
    helpers = []
    for fork, side in reversed(plain.paths[slot]):
        helpers.append(min(other for other, path in enumerate(plain.paths) if fork in dict(path) and dict(path)[fork] != side))
    return slot, helpers


class PlainCache:
    """A cache that answers by the plain model."""

    def __init__(self, plain, flags, entries):
        self.plain, self.flags, self.entries = plain, flags, list(entries)

    def request(self, entry):
        loads = entry not in self.entries
        slot = self.plain.victim(self.flags) if loads else self.entries.index(entry)
        self.entries[slot] = entry
        self.flags = self.plain.after(self.flags, slot)
        return loads


def loads_an_entry_twice(plain, many):
    """True if some cache loads one of so many entries twice while only these are asked for."""
    names = list(range(many))
    waiting = []
    for flags in plain.all_flags():
        for places in itertools.product([None] + names, repeat=plain.slots):
            known = [name for name in places if name is not None]
            if len(known) == len(set(known)):
                waiting.append((flags, places, frozenset()))
    seen = set(waiting)
    while waiting:
        flags, places, loaded = waiting.pop()
        for name in names:
            cache = PlainCache(plain, flags, places)
            after = loaded | {name} if cache.request(name) else loaded
            if after is not loaded and name in loaded:
                return True
            state = (cache.flags, tuple(cache.entries), after)
            if state not in seen:
                seen.add(state)
                waiting.append(state)
    return False


class EvictionTest(Case):
    def test_searches(self):
        for text in texts_up_to(6):
            tree, plain = Tree(text), Plain(text)
            for flags in plain.all_flags() if plain.slots < 6 else plain.all_flags()[::5]:
                found = loads_by_length(plain, flags, plain.slots + 1)
                numbers = [[slot in row for row in found].index(True) for slot in range(plain.slots)]
                self.exactly(eviction_numbers(tree, flags), numbers)
                for slot in range(plain.slots):
                    self.exactly(eviction_number(tree, flags, slot), numbers[slot])
                    plan = eviction_plan(tree, flags, slot)
                    self.exactly(plan, plain_plan(plain, flags, slot))
                    self.assertIsNotNone(plain.outcome(flags, plan))
                    self.assertEqual(len(plan), numbers[slot])
                for count, row in enumerate(found):
                    self.exactly(evictable(tree, flags, count), row)
                self.exactly(evictable(tree, flags, BIG), list(range(plain.slots)))

    def test_edges(self):
        one, tree = Tree("."), Tree(TEXT)
        self.exactly([eviction_number(one, "", 0), eviction_numbers(one, ""), eviction_plan(one, "", 0)], [1, [1], [("load", 0)]])
        self.exactly([evictable(one, "", 0), evictable(one, "", 1)], [[], [0]])
        self.exactly(eviction_numbers(tree, "LLL"), [3, 2, 3, 1])
        self.exactly([evictable(tree, "LLL", count) for count in range(4)], [[], [3], [1, 3], [0, 1, 2, 3]])
        self.exactly(eviction_plan(tree, "LLL", 0), [("hit", 1), ("hit", 2), ("load", 0)])
        self.exactly(eviction_plan(tree, "LLL", 3), [("load", 3)])
        # The root does not block slot 2, but the plan hits the other side of it all the same.
        self.exactly(eviction_plan(tree, "LLL", 2), [("hit", 3), ("hit", 0), ("load", 2)])

    def test_large_trees(self):
        chance = random.Random(121)
        for text in large_texts():
            tree, plain = Tree(text), Plain(text)
            for flags in (random_pattern(chance, 63, "LR"), "L" * 63, "R" * 63):
                numbers = eviction_numbers(tree, flags)
                for slot in range(64):
                    plan = eviction_plan(tree, flags, slot)
                    self.exactly(plan, plain_plan(plain, flags, slot))
                    self.assertIsNotNone(plain.outcome(flags, plan))
                    self.assertEqual(len(plan), numbers[slot])
                    self.exactly(eviction_number(tree, flags, slot), numbers[slot])
                for count in (0, 1, 7, 63, 64):
                    self.exactly(evictable(tree, flags, count), [slot for slot in range(64) if numbers[slot] <= count])
        self.exactly(eviction_number(Tree.comb(64), "R" * 63, 63), 64)
        self.exactly(eviction_number(Tree.comb(64), "R" * 62 + "L", 63), 63)


class SettlingTest(Case):
    def test_all_caches_of_small_trees(self):
        for text in texts_up_to(4):
            tree, plain = Tree(text), Plain(text)
            size = settling_size(tree)
            self.exactly(size, min(len(path) for path in plain.paths) + 1)
            self.assertFalse(loads_an_entry_twice(plain, size))
            self.assertTrue(loads_an_entry_twice(plain, size + 1))

    def test_sizes(self):
        self.exactly([settling_size(Tree.even(height)) for height in range(7)], [1, 2, 3, 4, 5, 6, 7])
        self.exactly([settling_size(Tree.comb(slots)) for slots in (1, 2, 3, 64)], [1, 2, 2, 2])


class ThrashingTest(Case):
    def test_the_example(self):
        for text in texts_up_to(6) + large_texts():
            tree, plain = Tree(text), Plain(text)
            slot, helpers = helpers_of(plain)
            cache, requests = thrashing(tree)
            names = [f"e{other}" for other in helpers]
            self.exactly(requests, names + ["x"] + names + [f"e{slot}"])
            self.assertEqual(len(set(requests)), settling_size(tree) + 1)
            self.exactly(cache.listed(), [f"e{other}" for other in range(plain.slots)])
            self.assertEqual(cache.tree, tree)
            flags = "L" * plain.forks
            for other in helpers + [slot]:
                flags = plain.after(flags, other)
            self.exactly(cache.flags, flags)

    def test_two_loads_each_time(self):
        for text in texts_up_to(6) + large_texts():
            cache, requests = thrashing(Tree(text))
            plain = PlainCache(Plain(text), cache.flags, cache.listed())
            for _ in range(4):
                kinds = [cache.request(entry)[0] for entry in requests]
                self.assertEqual(kinds.count("load"), 2)
                self.assertEqual([plain.request(entry) for entry in requests], [kind == "load" for kind in kinds])

    def test_some_written_out(self):
        cache, requests = thrashing(Tree("."))
        self.exactly([requests, cache.flags, cache.listed()], [["x", "e0"], "", ["e0"]])
        cache, requests = thrashing(Tree("((..).)"))
        self.exactly([requests, cache.flags], [["e0", "x", "e0", "e2"], "LR"])
        cache, requests = thrashing(Tree(TEXT))
        self.exactly([requests, cache.flags], [["e1", "e2", "x", "e1", "e2", "e0"], "LLL"])

    def test_each_answer_is_new(self):
        tree = Tree(TEXT)
        cache, requests = thrashing(tree)
        cache.request("y")
        requests.clear()
        cache, requests = thrashing(tree)
        self.exactly([cache.listed(), len(requests)], [["e0", "e1", "e2", "e3"], 6])


class ArgumentsTest(Case):
    def test_wrong_arguments(self):
        tree = Tree(TEXT)
        flags = ("flags", "LLL")
        check_wrong(self, eviction_number, ("any", tree), flags, ("slot", 0))
        check_wrong(self, eviction_plan, ("any", tree), flags, ("slot", 0))
        check_wrong(self, eviction_numbers, ("any", tree), flags)
        check_wrong(self, evictable, ("any", tree), flags, ("number", 0))
        self.refuses(InvalidNumber, (-1,), evictable, tree, "LLL", -1)

    def test_lists_are_new(self):
        tree = Tree(TEXT)
        for function, more in [(eviction_numbers, ()), (eviction_plan, (0,)), (evictable, (3,))]:
            found = function(tree, "LLL", *more)
            before = list(found)
            found.clear()
            self.exactly(function(tree, "LLL", *more), before)


if __name__ == "__main__":
    unittest.main()
