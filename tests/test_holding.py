"""lastside.holding: points 33, 34 and 35."""

import itertools
import math
import random
import unittest
from fractions import Fraction

from lastside.errors import InvalidSlot, TooMany
from lastside.holding import bound_table, hold_cycle, hold_rate, is_bound_table, is_hold_cycle
from lastside.trees import Tree
from tests.case import Case, alike
from tests.plain import STRANGE, Plain, all_shapes, large_texts, texts_up_to, written
from tests.test_openings import forks_of
from tests.test_runs import random_pattern
from tests.wrong import TEXT, check_wrong, variations


def subsets(slots):
    """All lists of different slots, ascending."""
    return [list(chosen) for many in range(slots + 1) for chosen in itertools.combinations(range(slots), many)]


def plain_bounds(shape, kept, first=0):
    """The rate and the slack of nested pairs as fractions, by the words of points 33 and 35."""
    if shape is None:
        return (Fraction(0 if first in kept else 1), Fraction(0))
    middle = [fork for fork, other, _ in forks_of(shape, first) if other is shape][-1] + 1
    sides = sorted([plain_bounds(shape[0], kept, first), plain_bounds(shape[1], kept, middle)], reverse=True)
    (high, slack), (low, other) = sides
    share = (1 + low) / (1 + high)
    return (high * share, share * slack + 1 - share + other)


def plain_table(plain, kept):
    """The bound table by fractions."""
    table = []
    for fork, shape, first in forks_of(plain.shape):
        rate, slack = plain_bounds(shape, kept, first)
        table.append((fork, rate.numerator, rate.denominator, slack.numerator, slack.denominator))
    return table


def steps_of(plain, kept):
    """For each flags the pairs (1 for a load and 0 for a hit, flags behind it) of all requests but loads of kept slots."""
    found = {}
    for flags in plain.all_flags():
        victim = plain.victim(flags)
        found[flags] = [(0, plain.after(flags, slot)) for slot in range(plain.slots)]
        if victim not in kept:
            found[flags].append((1, plain.after(flags, victim)))
    return found


def most_by_length(plain, kept, most):
    """The greatest numbers of loads in runs of 0 to `most` requests from any flags, by following all of them."""
    steps = steps_of(plain, kept)
    best = {flags: 0 for flags in steps}
    found = [0]
    for _ in range(most):
        following = {}
        for flags, loads in best.items():
            for load, after in steps[flags]:
                following[after] = max(following.get(after, 0), loads + load)
        best = following
        found.append(max(best.values()))
    return found


def exceeds(plain, kept, rate):
    """True if some cycle over the flags has a greater share of loads than the rate: sums of weights then grow for ever."""
    steps = steps_of(plain, kept)
    best = {flags: 0 for flags in steps}
    for _ in range(len(best) + 1):
        changed = False
        for flags, rows in steps.items():
            for load, after in rows:
                weight = best[flags] + load * rate[1] - rate[0]
                if weight > best[after]:
                    best[after] = weight
                    changed = True
        if not changed:
            return False
    return True


def is_plain_cycle(plain, kept, cycle, rate):
    """Whether a well-formed value is a holding cycle, by the words of point 34."""
    flags, run = cycle
    loads = [slot for kind, slot in run if kind == "load"]
    return len(run) > 0 and plain.outcome(flags, run) == flags and not set(loads) & set(kept) \
        and len(loads) * rate[1] == rate[0] * len(run)


class RateTest(Case):
    def test_all_cycles_over_the_flags(self):
        for text in texts_up_to(5):
            tree, plain = Tree(text), Plain(text)
            for kept in subsets(plain.slots):
                rate = hold_rate(tree, kept)
                self.assertEqual(math.gcd(*rate), 1)
                self.assertTrue(0 <= rate[0] <= rate[1])
                self.assertFalse(exceeds(plain, kept, rate))
                self.exactly(rate, plain_bounds(plain.shape, kept)[0].as_integer_ratio())
                # The holding cycle shows that this rate is possible.
                flags, run = hold_cycle(tree, kept)
                self.assertTrue(is_plain_cycle(plain, kept, (flags, run), rate))

    def test_trees_of_six_slots(self):
        chance = random.Random(131)
        for text in texts_up_to(6, low=6):
            plain = Plain(text)
            kept = chance.sample(range(6), chance.randrange(1, 6))
            self.assertFalse(exceeds(plain, kept, hold_rate(Tree(text), kept)))

    def test_edges(self):
        self.exactly(hold_rate(Tree(TEXT), [0]), (3, 4))
        self.exactly([hold_rate(Tree("."), []), hold_rate(Tree("."), [0])], [(1, 1), (0, 1)])
        for text in texts_up_to(5) + large_texts():
            tree = Tree(text)
            self.exactly(hold_rate(tree, list(range(len(tree)))[::-1]), (0, 1))
            self.exactly(hold_rate(tree, []), (1, 1))
        # Both sides have the rate 1 / 2.
        self.exactly(hold_rate(Tree(TEXT), [0, 3]), (1, 2))
        self.exactly(hold_rate(Tree(TEXT), [1, 0]), (1, 2))

    def test_large_trees(self):
        chance = random.Random(132)
        for text in large_texts():
            tree, plain = Tree(text), Plain(text)
            for many in (1, 5, 32, 63):
                kept = chance.sample(range(64), many)
                rate = plain_bounds(plain.shape, kept)[0]
                self.exactly(hold_rate(tree, kept), (rate.numerator, rate.denominator))
                self.exactly(hold_rate(tree.mirrored(), [63 - slot for slot in kept]), (rate.numerator, rate.denominator))
        self.exactly(hold_rate(Tree.comb(64), [63]), (2 ** 63 - 1, 2 ** 63))
        self.exactly(hold_rate(Tree.comb(64), list(range(63))), (1, 64))


class CycleTest(Case):
    def check(self, plain, kept):
        tree = Tree(plain.text)
        cycle = hold_cycle(tree, kept)
        flags, run = cycle
        self.assertTrue(isinstance(cycle, tuple) and isinstance(flags, str) and isinstance(run, list))
        self.assertTrue(is_plain_cycle(plain, kept, cycle, hold_rate(tree, kept)))
        self.assertLessEqual(len(run), 2 ** (plain.slots - 1))
        self.exactly(is_hold_cycle(tree, kept, cycle), True)

    def test_small_trees(self):
        for text in texts_up_to(6):
            plain = Plain(text)
            for kept in subsets(plain.slots):
                self.check(plain, kept[::-1])

    def test_trees_of_seven_to_ten_slots(self):
        chance = random.Random(133)
        for slots in (7, 8, 9, 10):
            shapes = all_shapes(slots)
            for _ in range(60):
                self.check(Plain(written(chance.choice(shapes))), chance.sample(range(slots), chance.randrange(slots + 1)))
        for side in "LR":
            for many in range(11):
                self.check(Plain(Tree.comb(10, side=side).text), chance.sample(range(10), many))

    def test_ten_and_eleven_slots(self):
        self.exactly(len(hold_cycle(Tree.comb(10), [9])[1]), 512)
        for tree in (Tree.comb(11), Tree.comb(11, side="L"), Tree.even(4), Tree.comb(64)):
            self.refuses(TooMany, (10,), hold_cycle, tree, [])
            self.refuses(TooMany, (10,), hold_cycle, tree, [0, 5])
            self.refuses(InvalidSlot, (64,), hold_cycle, tree, [0, 64])
            self.refuses(InvalidSlot, (None,), hold_cycle, tree, None)

    def test_one_slot(self):
        tree = Tree(".")
        self.exactly([hold_cycle(tree, []), hold_cycle(tree, [0])], [("", [("load", 0)]), ("", [("hit", 0)])])
        self.exactly(is_hold_cycle(tree, [], ("", [("load", 0)] * 7)), True)
        self.exactly(is_hold_cycle(tree, [], ("", [("hit", 0)])), False)
        self.exactly(is_hold_cycle(tree, [0], ("", [("hit", 0)] * 3)), True)
        self.exactly(is_hold_cycle(tree, [0], ("", [("load", 0)])), False)
        for kept in ([], [0]):
            self.exactly(is_hold_cycle(tree, kept, ("", [])), False)


class IsCycleTest(Case):
    def test_all_short_runs(self):
        found = 0
        for text in texts_up_to(3):
            tree, plain = Tree(text), Plain(text)
            lines = [(kind, slot) for kind in ("hit", "load") for slot in range(plain.slots)]
            for kept in subsets(plain.slots):
                rate = hold_rate(tree, kept)
                for many in range(4 if plain.slots == 3 else 5):
                    for run in itertools.product(lines, repeat=many):
                        for flags in plain.all_flags():
                            right = is_plain_cycle(plain, kept, (flags, list(run)), rate)
                            found += right
                            self.exactly(is_hold_cycle(tree, kept, (flags, list(run))), right)
        self.assertGreater(found, 100)

    def test_any_value(self):
        tree, plain = Tree(TEXT), Plain(TEXT)
        for kept in ([0], [1, 3], [], [0, 1, 2, 3], [2, 3]):
            cycle = hold_cycle(tree, kept)
            rate = hold_rate(tree, kept)
            found = 0
            for value in variations(cycle) + STRANGE + [list(cycle), cycle + (None,), cycle[1], (cycle[1], cycle[0])]:
                right = alike(value, cycle) or self.well_formed(value) and is_plain_cycle(plain, kept, value, rate)
                found += right
                self.assertIs(is_hold_cycle(tree, kept, value), right, value)
            self.assertLess(found, 9)

    def well_formed(self, value):
        """A tuple of flags and a list of lines of the tree TEXT."""
        if type(value) is not tuple or len(value) != 2 or type(value[0]) is not str or type(value[1]) is not list:
            return False
        lines = [(kind, slot) for kind in ("hit", "load") for slot in range(4)]
        return len(value[0]) == 3 and set(value[0]) <= set("LR") and all(any(alike(part, line) for line in lines) for part in value[1])

    def test_wrong_forms(self):
        tree = Tree("(..)")
        self.exactly(is_hold_cycle(tree, [], ("L", [("load", 1), ("load", 0)])), True)
        for value in (["L", [("load", 1), ("load", 0)]], ("L", (("load", 1), ("load", 0))), ("L", [["load", 1], ("load", 0)]),
                      ("L", [("load", True), ("load", False)]), ("?", [("load", 1), ("load", 0)]), ("", [("load", 1), ("load", 0)]),
                      ("LL", [("load", 1), ("load", 0)]), ("L", [("load", 1), ("load", 2)]), ("L", [("load", 1), ("LOAD", 0)]),
                      ("R", [("load", 1), ("load", 0)]), ("L", [("load", 1)]), ("L", [("load", 1), ("hit", 0)]), ("L", []),
                      ("L", [("load", 1), ("load", 0)], None), (["L"], [("load", 1), ("load", 0)])):
            self.exactly(is_hold_cycle(tree, [], value), False)

    def test_trees_of_any_size(self):
        chance = random.Random(134)
        for text in large_texts():
            tree, plain = Tree(text), Plain(text)
            flags = "L" * 63
            self.exactly(is_hold_cycle(tree, list(range(64)), (flags, [("hit", 0)])), True)
            self.exactly(is_hold_cycle(tree, list(range(1, 64)), (flags, [("hit", 0)])), False)
            run, flags = [], random_pattern(chance, 63, "LR")
            start = flags
            while len(run) < 64:
                run.append(("load", plain.victim(flags)))
                flags = plain.after(flags, run[-1][1])
            self.exactly(is_hold_cycle(tree, [], (start, run)), flags == start)
            self.exactly(is_hold_cycle(tree, [run[3][1]], (start, run)), False)
        # All slots of an even tree are loaded in turn, so the flags are the same again.
        self.exactly(is_hold_cycle(Tree.even(2), [], ("LLL", [("load", 3), ("load", 1), ("load", 2), ("load", 0)] * 250)), True)


class BoundTest(Case):
    def test_all_runs(self):
        for text in texts_up_to(4):
            tree, plain = Tree(text), Plain(text)
            for kept in subsets(plain.slots):
                self.check(tree, plain, kept, 12)
        chance = random.Random(135)
        for text in texts_up_to(6, low=5):
            plain = Plain(text)
            self.check(Tree(text), plain, chance.sample(range(plain.slots), chance.randrange(plain.slots)), 10)

    def check(self, tree, plain, kept, most):
        self.exactly(bound_table(tree, kept), plain_table(plain, kept))
        self.exactly(is_bound_table(tree, kept, plain_table(plain, kept)), True)
        rate, slack = plain_bounds(plain.shape, kept)
        for length, loads in enumerate(most_by_length(plain, kept, most)):
            self.assertLessEqual(loads, length * rate + slack)

    def test_the_example(self):
        tree = Tree("(.(..))")
        self.exactly(bound_table(tree, [0, 2]), [(1, 1, 2, 1, 2), (0, 1, 3, 2, 3)])
        self.exactly(bound_table(tree, [2, 0]), [(1, 1, 2, 1, 2), (0, 1, 3, 2, 3)])

    def test_edges(self):
        for kept in ([], [0]):
            self.exactly(bound_table(Tree("."), kept), [])
            self.exactly(is_bound_table(Tree("."), kept, []), True)
            self.exactly(is_bound_table(Tree("."), kept, ()), False)
        self.exactly(bound_table(Tree(TEXT), []), [(0, 1, 1, 0, 1), (2, 1, 1, 0, 1), (1, 1, 1, 0, 1)])
        self.exactly(bound_table(Tree(TEXT), [0, 1, 2, 3]), [(0, 0, 1, 0, 1), (2, 0, 1, 0, 1), (1, 0, 1, 0, 1)])
        # Both sides of the root have the rate 1 / 2 and the slack 1 / 2.
        self.exactly(bound_table(Tree(TEXT), [0, 3]), [(0, 1, 2, 1, 2), (2, 1, 2, 1, 2), (1, 1, 2, 1, 1)])

    def test_equal_rates_with_different_slacks(self):
        # (a side of one kept and one free slot has the rate 1 / 2; so has a pair of two such sides)
        tree, plain = Tree("((..)((..)(..)))"), Plain("((..)((..)(..)))")
        self.exactly(bound_table(tree, [0, 2, 4]), plain_table(plain, [0, 2, 4]))
        self.exactly(bound_table(tree, [0, 2, 4])[-1], (1, 1, 2, 3, 2))
        self.exactly(bound_table(tree.mirrored(), [5, 3, 1])[-1], (3, 1, 2, 3, 2))

    def test_large_trees(self):
        chance = random.Random(136)
        for text in large_texts():
            tree, plain = Tree(text), Plain(text)
            for many in (0, 3, 20, 60, 64):
                kept = chance.sample(range(64), many)
                table = plain_table(plain, kept)
                self.exactly(bound_table(tree, kept), table)
                self.exactly(is_bound_table(tree, kept, table), True)

    def test_tables_with_one_thing_changed(self):
        tree = Tree(TEXT)
        for kept in ([0], [], [1, 2], [3, 2, 1, 0]):
            table = bound_table(tree, kept)
            for other in variations(table) + STRANGE:
                self.assertIs(is_bound_table(tree, kept, other), alike(other, table), other)
        # Shares that are not in lowest terms are no bound table.
        self.exactly(is_bound_table(Tree("(..)"), [0], [(0, 1, 2, 1, 2)]), True)
        self.exactly(is_bound_table(Tree("(..)"), [0], [(0, 2, 4, 1, 2)]), False)
        self.exactly(is_bound_table(Tree("(..)"), [0], [(0, -1, -2, 1, 2)]), False)
        self.exactly(is_bound_table(Tree("(..)"), [], [(0, 1, 1, 0, 2)]), False)
        self.exactly(is_bound_table(Tree("(..)"), [], [(False, True, True, False, True)]), False)


class ArgumentsTest(Case):
    def test_wrong_arguments(self):
        tree = Tree(TEXT)
        kept = ("chosen", [0])
        for function in (hold_rate, hold_cycle, bound_table):
            check_wrong(self, function, ("any", tree), kept)
        for function in (is_hold_cycle, is_bound_table):
            check_wrong(self, function, ("any", tree), kept, ("any", None))

    def test_lists_stay_and_are_new(self):
        tree, kept = Tree(TEXT), [2, 0]
        flags, run = hold_cycle(tree, kept)
        self.exactly(is_hold_cycle(tree, kept, (flags, run)), True)
        before = list(run)
        table = bound_table(tree, kept)
        self.exactly(is_bound_table(tree, kept, table), True)
        rows = list(table)
        self.exactly([kept, run], [[2, 0], before])
        run.clear()
        table.clear()
        self.exactly([hold_cycle(tree, kept)[1], bound_table(tree, kept)], [before, rows])


if __name__ == "__main__":
    unittest.main()
