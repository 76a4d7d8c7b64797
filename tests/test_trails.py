"""lastside.trails: points 25, 26 and 27."""

import random
import unittest

from lastside.errors import InvalidFlags
from lastside.trails import (hangs_on, least_hits, least_hits_with, may_be_used, needed, surely_used, trails)
from lastside.trees import Tree
from tests.case import Case
from tests.plain import Plain, large_texts, texts_up_to
from tests.test_runs import random_pattern
from tests.wrong import BIG, TEXT, check_wrong


def plain_trails(plain, flags):
    """The trails: that of a slot has the lowest forks of its path, as far as they show its side."""
    found = []
    for slot, path in enumerate(plain.paths):
        top = len(path)
        while top > 0 and flags[path[top - 1][0]] == path[top - 1][1]:
            top -= 1
        hang = path[top - 1][0] if top > 0 else None
        found.append((slot, tuple(fork for fork, _ in path[top:]), hang))
    return found


def plain_needed(plain, start, end):
    """The slots of the needed trails, by the words of point 26."""
    rows = plain_trails(plain, end)
    found = {slot for slot, forks, _ in rows if any(start[fork] != end[fork] for fork in forks)}
    while True:
        more = {slot for slot, forks, _ in rows for other, _, hang in rows if other in found and hang in forks} - found
        if not more:
            return sorted(found)
        found |= more


def hits_needed(plain, start, end):
    """The least number of hits that lead from all flags that fit the start to the end, by a search."""
    states = {frozenset(plain.fitting(start))}
    seen, hits = set(states), 0
    while frozenset([end]) not in states:
        states = {frozenset(plain.after(flags, slot) for flags in state) for state in states
                  for slot in range(plain.slots)} - seen
        seen |= states
        hits += 1
    return hits


def visits(plain, start, end, most):
    """For each number of requests up to `most`, the sets of slots to which all ways from the start to the end go."""
    states = {(start, frozenset())}
    found = []
    for _ in range(most + 1):
        found.append([used for flags, used in states if flags == end])
        states = {(plain.after(flags, slot), used | {slot}) for flags, used in states for slot in range(plain.slots)}
    return found


def random_states(many):
    """Large trees with two flags, that differ in few or in many forks."""
    chance = random.Random(71)
    for text in large_texts():
        plain = Plain(text)
        for number in range(many):
            end = random_pattern(chance, 63, "LR")
            start = random_pattern(chance, 63, "LR")
            if number % 2:
                start = "".join(chance.choice([flag] * 9 + ["L", "R"]) for flag in end)
            yield plain, start, end


class TrailsTest(Case):
    def test_all_flags(self):
        for text in texts_up_to(6):
            tree, plain = Tree(text), Plain(text)
            for flags in plain.all_flags():
                rows = plain_trails(plain, flags)
                self.exactly(trails(tree, flags), rows)
                self.assertEqual(sorted(fork for _, forks, _ in rows for fork in forks), list(range(plain.forks)))
                for slot, _, hang in rows:
                    owners = [other for other, forks, _ in rows if hang in forks]
                    self.exactly(hangs_on(tree, flags, slot), owners[0] if owners else None)

    def test_the_example(self):
        tree = Tree(TEXT)
        self.exactly(trails(tree, "LRL"), [(0, (0,), 1), (1, (), 0), (2, (1, 2), None), (3, (), 2)])
        self.exactly([hangs_on(tree, "LRL", slot) for slot in range(4)], [2, 0, None, 2])

    def test_one_slot(self):
        tree = Tree(".")
        self.exactly(trails(tree, ""), [(0, (), None)])
        self.exactly(hangs_on(tree, "", 0), None)
        self.exactly([needed(tree, "", ""), least_hits(tree, "", ""), surely_used(tree, "", "")], [[], 0, []])
        self.exactly(least_hits_with(tree, "", "", 0), 1)
        self.exactly([may_be_used(tree, "", "", length) for length in (0, 1, 2, BIG)], [[], [0], [0], [0]])

    def test_large_trees(self):
        for plain, _, flags in random_states(2):
            tree = Tree(plain.text)
            rows = plain_trails(plain, flags)
            self.exactly(trails(tree, flags), rows)
            owner = {fork: slot for slot, forks, _ in rows for fork in forks}
            self.exactly([hangs_on(tree, flags, slot) for slot in range(64)], [owner.get(hang) for _, _, hang in rows])

    def test_a_trail_of_a_comb(self):
        comb = Tree.comb(64)
        self.exactly(trails(comb, "R" * 63)[-1], (63, tuple(range(63)), None))
        self.exactly(trails(comb, "L" * 63)[-1], (63, (), 62))
        self.exactly(trails(comb, "L" * 63)[0], (0, (0,), None))


class NeededTest(Case):
    def test_the_example(self):
        tree = Tree(TEXT)
        self.exactly(needed(tree, "LRL", "RRL"), [1, 2])
        self.exactly(least_hits(tree, "LRL", "RRL"), 2)

    def test_searches_of_all_patterns(self):
        for text in texts_up_to(4):
            tree, plain = Tree(text), Plain(text)
            for start in plain.all_patterns():
                for end in plain.all_flags():
                    slots = needed(tree, start, end)
                    self.exactly(slots, plain_needed(plain, start, end))
                    self.exactly(least_hits(tree, start, end), len(slots))
                    self.assertEqual(hits_needed(plain, start, end), len(slots))

    def test_searches_of_some_patterns(self):
        chance = random.Random(72)
        for text in texts_up_to(6, low=5):
            tree, plain = Tree(text), Plain(text)
            for letters in ("LR", "LR", "LR?", "LR??"):
                start, end = random_pattern(chance, plain.forks, letters), random_pattern(chance, plain.forks, "LR")
                self.exactly(needed(tree, start, end), plain_needed(plain, start, end))
                self.exactly(least_hits(tree, start, end), hits_needed(plain, start, end))

    def test_edges(self):
        tree = Tree(TEXT)
        for flags in Plain(TEXT).all_flags():
            self.exactly([needed(tree, flags, flags), least_hits(tree, flags, flags)], [[], 0])
            # A `?` is another character, whatever the end shows there.
            owners = {fork: slot for slot, forks, _ in trails(tree, flags) for fork in forks}
            for fork in range(3):
                start = flags[:fork] + "?" + flags[fork + 1:]
                self.assertIn(owners[fork], needed(tree, start, flags))
            self.exactly(least_hits(tree, "???", flags), 2)

    def test_large_trees(self):
        for plain, start, end in random_states(4):
            tree = Tree(plain.text)
            slots = needed(tree, start, end)
            self.exactly(slots, plain_needed(plain, start, end))
            self.exactly(least_hits(tree, start, end), len(slots))
            self.exactly(surely_used(tree, start, end), slots)
            unknown = start[:20] + "?" * 20 + start[40:]
            self.exactly(needed(tree, unknown, end), plain_needed(plain, unknown, end))


class UsedTest(Case):
    def test_all_ways_on_small_trees(self):
        for text in texts_up_to(4):
            tree, plain = Tree(text), Plain(text)
            for start in plain.all_flags():
                for end in plain.all_flags():
                    ways = visits(plain, start, end, 5)
                    everything = [used for many in ways for used in many]
                    self.exactly(surely_used(tree, start, end),
                                 [slot for slot in range(plain.slots) if all(slot in used for used in everything)])
                    for length, many in enumerate(ways):
                        self.exactly(may_be_used(tree, start, end, length),
                                     [slot for slot in range(plain.slots) if any(slot in used for used in many)])
                    for slot in range(plain.slots):
                        lengths = [length for length, many in enumerate(ways) if any(slot in used for used in many)]
                        self.exactly(least_hits_with(tree, start, end, slot), lengths[0])

    def test_some_ways_on_larger_trees(self):
        chance = random.Random(73)
        for text in texts_up_to(6, low=5)[::3]:
            tree, plain = Tree(text), Plain(text)
            start, end = random_pattern(chance, plain.forks, "LR"), random_pattern(chance, plain.forks, "LR")
            ways = visits(plain, start, end, 6)
            for length, many in enumerate(ways):
                used = [slot for slot in range(plain.slots) if any(slot in one for one in many)]
                self.exactly(may_be_used(tree, start, end, length), used)
            for slot in range(plain.slots):
                lengths = [length for length, many in enumerate(ways) if any(slot in used for used in many)]
                self.exactly(least_hits_with(tree, start, end, slot), lengths[0])

    def test_edges(self):
        tree = Tree(TEXT)
        self.exactly(may_be_used(tree, "LRL", "RRL", 0), [])
        self.exactly(may_be_used(tree, "LRL", "RRL", 1), [])
        self.exactly(may_be_used(tree, "LRL", "RRL", 2), [1, 2])
        self.exactly(may_be_used(tree, "LRL", "RRL", 3), [0, 1, 2, 3])
        self.exactly(may_be_used(tree, "LRL", "RRL", BIG), [0, 1, 2, 3])
        self.exactly(may_be_used(tree, "LLL", "LLL", 0), [])
        self.exactly(may_be_used(tree, "LLL", "LLL", 1), [0])
        self.exactly(may_be_used(tree, "LLL", "LLL", 2), [0, 1, 2])
        self.exactly(may_be_used(tree, "LLL", "LLL", 3), [0, 1, 2, 3])
        self.exactly([least_hits_with(tree, "LLL", "LLL", slot) for slot in range(4)], [1, 2, 2, 3])

    def test_large_trees(self):
        for plain, start, end in random_states(2):
            tree = Tree(plain.text)
            rows = plain_trails(plain, end)
            owner = {fork: slot for slot, forks, _ in rows for fork in forks}
            least = []
            for slot in range(64):
                added, at = set(plain_needed(plain, start, end)), slot
                while at is not None:
                    added.add(at)
                    at = owner.get(rows[at][2])
                least.append(len(added))
            self.exactly([least_hits_with(tree, start, end, slot) for slot in range(0, 64, 5)], least[::5])
            for length in (0, 1, len(needed(tree, start, end)), 40, 64):
                self.exactly(may_be_used(tree, start, end, length), [slot for slot in range(64) if least[slot] <= length])


class ArgumentsTest(Case):
    def test_wrong_arguments(self):
        tree = Tree(TEXT)
        flags, pattern, slot = ("flags", "LLL"), ("pattern", "LLL"), ("slot", 0)
        check_wrong(self, trails, ("any", tree), flags)
        check_wrong(self, hangs_on, ("any", tree), flags, slot)
        check_wrong(self, needed, ("any", tree), pattern, flags)
        check_wrong(self, least_hits, ("any", tree), pattern, flags)
        check_wrong(self, least_hits_with, ("any", tree), flags, flags, slot)
        check_wrong(self, surely_used, ("any", tree), flags, flags)
        check_wrong(self, may_be_used, ("any", tree), flags, flags, ("number", 0))

    def test_where_a_pattern_is_refused(self):
        tree = Tree(TEXT)
        for function in (needed, least_hits):
            self.refuses(InvalidFlags, ("L?L",), function, tree, "L?L", "L?L")
        for function, more in [(surely_used, ()), (least_hits_with, (0,)), (may_be_used, (3,))]:
            self.refuses(InvalidFlags, ("L?L",), function, tree, "L?L", "LLL", *more)
            self.refuses(InvalidFlags, ("LL?",), function, tree, "LLL", "LL?", *more)

    def test_lists_are_new(self):
        tree = Tree(TEXT)
        for function, arguments in [(trails, ("LRL",)), (needed, ("LRL", "RRL")), (surely_used, ("LRL", "RRL")),
                                    (may_be_used, ("LRL", "RRL", 3))]:
            found = function(tree, *arguments)
            before = list(found)
            found.clear()
            self.exactly(function(tree, *arguments), before)


if __name__ == "__main__":
    unittest.main()
