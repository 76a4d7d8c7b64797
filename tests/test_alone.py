"""lastside.alone: point 37."""

import random
import unittest

from lastside.alone import alone_count, flags_alone, loads_alone, slot_alone
from lastside.errors import InvalidFlags, InvalidNumber
from lastside.trees import Tree
from tests.case import Case
from tests.plain import Plain, large_texts, texts_up_to
from tests.test_runs import random_pattern
from tests.wrong import BIG, TEXT, check_wrong

MOST = 10 ** 40


def height_of(plain):
    return max(len(path) for path in plain.paths)


class SmallTest(Case):
    def test_a_period_and_more(self):
        for text in texts_up_to(6):
            tree, plain = Tree(text), Plain(text)
            period = 2 ** height_of(plain)
            for start in plain.all_flags():
                flags, loads = start, [0] * plain.slots
                for count in range(period + 4):
                    self.exactly(loads_alone(tree, start, count), loads)
                    self.exactly(flags_alone(tree, start, count), flags)
                    victim = plain.victim(flags)
                    self.exactly(slot_alone(tree, start, count), victim)
                    flags, loads = plain.after(flags, victim), [many + (slot == victim) for slot, many in enumerate(loads)]

    def test_how_often_flags_come(self):
        never = 0
        for text in texts_up_to(6):
            tree, plain = Tree(text), Plain(text)
            period = 2 ** height_of(plain)
            for start in plain.all_flags()[::3]:
                first, flags = {}, start
                for count in range(period):
                    self.assertNotIn(flags, first)
                    first[flags] = count
                    flags = plain.after(flags, plain.victim(flags))
                self.assertEqual(flags, start)
                for end in plain.all_flags():
                    right = (first[end], period) if end in first else None
                    never += right is None
                    self.exactly(alone_count(tree, start, end), right)
        self.assertGreater(never, 100)

    def test_edges(self):
        one, tree = Tree("."), Tree(TEXT)
        self.exactly([loads_alone(one, "", 0), loads_alone(one, "", MOST), flags_alone(one, "", 7), slot_alone(one, "", MOST)],
                     [[0], [MOST], "", 0])
        self.exactly(alone_count(one, "", ""), (0, 1))
        self.exactly([slot_alone(tree, "LLL", index) for index in range(5)], [3, 1, 2, 0, 3])
        self.exactly([flags_alone(tree, "LLL", count) for count in range(5)], ["LLL", "LRR", "RLR", "RRL", "LLL"])
        self.exactly([loads_alone(tree, "LLL", count) for count in (0, 1, 3, 4)], [[0] * 4, [0, 0, 0, 1], [0, 1, 1, 1], [1] * 4])
        self.exactly([alone_count(tree, "LLL", end) for end in ("LLL", "LRR", "RRL", "LRL", "RRR")], [(0, 4), (1, 4), (3, 4), None, None])
        self.exactly([alone_count(tree, flags, flags) for flags in Plain(TEXT).all_flags()], [(0, 4)] * 8)


class LargeTest(Case):
    def test_great_counts(self):
        chance = random.Random(151)
        for text in large_texts():
            tree, plain = Tree(text), Plain(text)
            height = height_of(plain)
            period = 2 ** height
            for start in (random_pattern(chance, 63, "LR"), "L" * 63, "R" * 63):
                self.exactly(flags_alone(tree, start, period), start)
                once = [2 ** (height - len(path)) for path in plain.paths]
                self.exactly(loads_alone(tree, start, period), once)
                for count in (period - 1, MOST - 2, chance.randrange(MOST), chance.randrange(period), 0, 1):
                    loads, flags = loads_alone(tree, start, count), flags_alone(tree, start, count)
                    self.assertEqual(sum(loads), count)
                    rest = loads_alone(tree, start, count % period)
                    self.assertEqual(loads, [count // period * many + more for many, more in zip(once, rest)])
                    victim = plain.victim(flags)
                    self.exactly(slot_alone(tree, start, count), victim)
                    self.exactly(loads_alone(tree, start, count + 1), [many + (slot == victim) for slot, many in enumerate(loads)])
                    self.exactly(flags_alone(tree, start, count + 1), plain.after(flags, victim))
                    self.exactly(alone_count(tree, start, flags), (count % period, period))
                    self.exactly(alone_count(tree, flags, start), (-count % period, period))

    def test_flags_that_never_come(self):
        # An even tree of height 6 has 2 ** 63 flags, of which 64 come from any other ones.
        chance = random.Random(152)
        tree = Tree.even(6)
        come = {flags_alone(tree, "L" * 63, count) for count in range(64)}
        self.assertEqual(len(come), 64)
        for _ in range(50):
            flags = random_pattern(chance, 63, "LR")
            self.assertEqual(alone_count(tree, "L" * 63, flags) is not None, flags in come)
        for flags in sorted(come)[::7]:
            at = chance.randrange(63)
            changed = flags[:at] + ("R" if flags[at] == "L" else "L") + flags[at + 1:]
            self.assertEqual(alone_count(tree, "L" * 63, changed) is not None, changed in come)

    def test_all_flags_of_a_comb_come(self):
        chance = random.Random(153)
        comb = Tree.comb(64)
        for _ in range(10):
            start, end = random_pattern(chance, 63, "LR"), random_pattern(chance, 63, "LR")
            remainder, period = alone_count(comb, start, end)
            self.exactly([period, 0 <= remainder < period], [2 ** 63, True])
            self.exactly(flags_alone(comb, start, remainder), end)
            self.exactly(flags_alone(comb, start, remainder + 10 ** 20 * period), end)


class ArgumentsTest(Case):
    def test_wrong_arguments(self):
        tree = Tree(TEXT)
        flags = ("flags", "LLL")
        for function in (loads_alone, flags_alone, slot_alone):
            check_wrong(self, function, ("any", tree), flags, ("loads", 0))
        check_wrong(self, alone_count, ("any", tree), flags, flags)

    def test_the_greatest_count(self):
        tree = Tree(TEXT)
        self.exactly(loads_alone(tree, "LLL", MOST), [MOST // 4] * 4)
        self.exactly([flags_alone(tree, "LLL", MOST), slot_alone(tree, "LLL", MOST)], ["LLL", 3])
        for function in (loads_alone, flags_alone, slot_alone):
            for count in (MOST + 1, BIG, -1, True, None):
                self.refuses(InvalidNumber, (count,), function, tree, "LLL", count)
            self.refuses(InvalidFlags, ("LL?",), function, tree, "LL?", MOST + 1)
        self.refuses(InvalidFlags, ("LL?",), alone_count, tree, "LLL", "LL?")

    def test_lists_are_new(self):
        loads_alone(Tree(TEXT), "LLL", 9).clear()
        self.exactly(loads_alone(Tree(TEXT), "LLL", 9), [2, 2, 2, 3])


if __name__ == "__main__":
    unittest.main()
