"""lastside.flags: points 1, 7 and 8, and the arguments of point 4."""

import itertools
import random
import unittest

from lastside.errors import InvalidFlags, InvalidSlot
from lastside.flags import all_after, all_flags, blocking, each_flags, fits, flags_after, mirrored_flags, victim_of
from lastside.trees import Tree
from tests.case import Case, other_than
from tests.plain import STRANGE, Plain, large_texts, texts_up_to


def is_number(value):
    return isinstance(value, int) and not isinstance(value, bool)


def random_flags(chance, forks, letters="LR"):
    return "".join(chance.choice(letters) for _ in range(forks))


class TurnsTest(Case):
    def test_small_trees(self):
        for text in texts_up_to(6):
            tree, plain = Tree(text), Plain(text)
            for flags in plain.all_flags():
                self.exactly(victim_of(tree, flags), plain.victim(flags))
                for slot in range(plain.slots):
                    self.exactly(flags_after(tree, flags, slot), plain.after(flags, slot))
                    self.exactly(blocking(tree, flags, slot),
                                 [fork for fork, side in plain.paths[slot] if flags[fork] == side])
                    self.assertEqual(blocking(tree, flags, slot) == [], slot == victim_of(tree, flags))

    def test_patterns(self):
        for text in texts_up_to(5):
            tree, plain = Tree(text), Plain(text)
            for pattern in plain.all_patterns():
                for slot in range(plain.slots):
                    self.exactly(flags_after(tree, pattern, slot), plain.after(pattern, slot))

    def test_large_trees(self):
        chance = random.Random(8)
        for text in large_texts():
            tree, plain = Tree(text), Plain(text)
            for _ in range(10):
                flags, pattern = random_flags(chance, 63), random_flags(chance, 63, "LR?")
                self.exactly(victim_of(tree, flags), plain.victim(flags))
                for slot in range(64):
                    self.exactly(flags_after(tree, flags, slot), plain.after(flags, slot))
                    self.exactly(flags_after(tree, pattern, slot), plain.after(pattern, slot))
                    self.exactly(blocking(tree, flags, slot),
                                 [fork for fork, side in plain.paths[slot] if flags[fork] == side])

    def test_one_slot(self):
        tree = Tree(".")
        self.exactly(flags_after(tree, "", 0), "")
        self.exactly(victim_of(tree, ""), 0)
        self.exactly(blocking(tree, "", 0), [])
        self.exactly(all_after(tree, "", [0, 0]), "")
        self.exactly(list(each_flags(tree)), [""])
        self.exactly(all_flags(tree), [""])
        self.exactly(mirrored_flags(""), "")
        self.exactly(fits("", ""), True)

    def test_all_after(self):
        chance = random.Random(9)
        for text in texts_up_to(6) + large_texts():
            tree, plain = Tree(text), Plain(text)
            for _ in range(5):
                start = flags = random_flags(chance, plain.forks)
                slots = [chance.randrange(plain.slots) for _ in range(chance.randrange(12))]
                for slot in slots:
                    flags = plain.after(flags, slot)
                self.exactly(all_after(tree, start, slots), flags)
        self.exactly(all_after(Tree("((..)(..))"), "LRL", []), "LRL")
        self.exactly(all_after(Tree.comb(64), "L" * 63, [63] * 1000), "R" * 63)

    def test_the_next_victim_is_never_the_slot_just_used(self):
        for text in texts_up_to(6, low=2):
            tree = Tree(text)
            for flags in each_flags(tree):
                for slot in range(len(tree)):
                    self.assertNotEqual(victim_of(tree, flags_after(tree, flags, slot)), slot)


class TextsTest(Case):
    def test_each_flags(self):
        for text in texts_up_to(6):
            tree = Tree(text)
            self.exactly(list(each_flags(tree)), sorted("".join(flags) for flags in
                                                        itertools.product("LR", repeat=tree.forks)))

    def test_all_flags_are_those_that_each_flags_yields(self):
        for text in texts_up_to(6):
            tree = Tree(text)
            self.exactly(all_flags(tree), list(each_flags(tree)))
        self.exactly(all_flags(Tree("((..).)")), ["LL", "LR", "RL", "RR"])
        found = all_flags(Tree("(..)"))
        found.clear()
        self.exactly(all_flags(Tree("(..)")), ["L", "R"])

    def test_each_flags_yields_one_by_one(self):
        first = list(itertools.islice(each_flags(Tree.even(6)), 3))
        self.assertEqual(first, ["L" * 63, "L" * 62 + "R", "L" * 61 + "RL"])

    def test_fits(self):
        for flags in itertools.product("LR", repeat=3):
            for pattern in itertools.product("LR?", repeat=3):
                right = all(known in (flag, "?") for flag, known in zip(flags, pattern))
                self.exactly(fits("".join(flags), "".join(pattern)), right)
        self.exactly(fits("L" * 62 + "R", "?" * 63), True)
        self.exactly(fits("L" * 62 + "R", "?" * 62 + "L"), False)

    def test_mirrored_flags(self):
        self.exactly(mirrored_flags("LLR?"), "?LRR")
        self.exactly(mirrored_flags("L"), "R")
        for text in texts_up_to(5):
            tree, plain = Tree(text), Plain(text)
            for pattern in plain.all_patterns():
                self.assertEqual(mirrored_flags(mirrored_flags(pattern)), pattern)
                for slot in range(plain.slots):
                    other = flags_after(tree.mirrored(), mirrored_flags(pattern), plain.slots - 1 - slot)
                    self.assertEqual(other, mirrored_flags(flags_after(tree, pattern, slot)))
            for flags in plain.all_flags():
                victim = victim_of(tree.mirrored(), mirrored_flags(flags))
                self.assertEqual(victim, plain.slots - 1 - victim_of(tree, flags))


class WrongArgumentsTest(Case):
    def wrong_flags(self, tree):
        forks = tree.forks
        return other_than(lambda value: value == "L" * forks or value == "?" * forks, STRANGE) + [
            "L" * (forks + 1), "l" * forks + "l", "L" * forks + " ", ["L"] * forks, ("L",) * forks, 0, 1]

    def test_flags(self):
        for text in [".", "(..)", "(.(..))", "((..)(..))", Tree.comb(64).text]:
            tree = Tree(text)
            wrong = self.wrong_flags(tree)
            if tree.forks > 0:
                wrong += ["", "X" * tree.forks, "L" * (tree.forks - 1), "L" * (tree.forks - 1) + "l", "." * tree.forks]
            for value in wrong:
                self.refuses(InvalidFlags, (value,), flags_after, tree, value, 0)
                self.refuses(InvalidFlags, (value,), victim_of, tree, value)
                self.refuses(InvalidFlags, (value,), blocking, tree, value, 0)
                self.refuses(InvalidFlags, (value,), all_after, tree, value, [])

    def test_unknown_flags(self):
        for text in texts_up_to(4, low=2):
            tree = Tree(text)
            for at in range(tree.forks):
                pattern = "L" * at + "?" + "L" * (tree.forks - 1 - at)
                self.refuses(InvalidFlags, (pattern,), victim_of, tree, pattern)
                self.refuses(InvalidFlags, (pattern,), blocking, tree, pattern, 0)
                self.refuses(InvalidFlags, (pattern,), all_after, tree, pattern, [0])
                self.assertEqual(len(flags_after(tree, pattern, 0)), tree.forks)

    def test_slots(self):
        tree = Tree("((..)(..))")
        for value in other_than(is_number, STRANGE) + [-1, 4, 5, 63, 64, 10 ** 59]:
            self.refuses(InvalidSlot, (value,), flags_after, tree, "LLL", value)
            self.refuses(InvalidSlot, (value,), blocking, tree, "LLL", value)
            self.refuses(InvalidSlot, (value,), all_after, tree, "LLL", [0, 0, value, 9])
            if not isinstance(value, list):
                self.refuses(InvalidSlot, (value,), all_after, tree, "LLL", value)
        for value in [(0, 1), {0: 1}, "01"]:
            self.refuses(InvalidSlot, (value,), all_after, tree, "LLL", value)
        self.assertEqual(flags_after(Tree.comb(64), "L" * 63, 63), "R" * 63)
        self.refuses(InvalidSlot, (64,), flags_after, Tree.comb(64), "L" * 63, 64)

    def test_two_wrong_arguments(self):
        tree = Tree("((..)(..))")
        self.refuses(InvalidFlags, ("LL",), flags_after, tree, "LL", 9)
        self.refuses(InvalidFlags, ("L?L",), blocking, tree, "L?L", 9)
        self.refuses(InvalidFlags, (None,), all_after, tree, None, [True])


if __name__ == "__main__":
    unittest.main()
