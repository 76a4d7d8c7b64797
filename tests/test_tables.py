"""lastside.tables."""

import random
import unittest

from lastside.caches import Cache
from lastside.staying import eviction_numbers
from lastside.tables import fork_table, slot_table
from lastside.trees import Tree
from tests.case import Case
from tests.plain import Plain, large_texts, texts_up_to
from tests.test_keepers import random_flags
from tests.wrong import TEXT, check_wrong


class SlotTableTest(Case):
    def test_written_out(self):
        cache = Cache(Tree("((..).)"), "RL", ["b", "abcdefghijkl", "0"])
        self.exactly(slot_table(cache), ["  0 b              2", "  1 abcdefghijkl   3", "  2 0              1 *"])
        self.exactly(slot_table(Cache(Tree("."), "", ["a"])), ["  0 a              1 *"])
        self.exactly(slot_table(Cache.fresh(Tree(TEXT))), ["  0 e0             3", "  1 e1             2", "  2 e2             3", "  3 e3             1 *"])

    def test_columns(self):
        chance = random.Random(271)
        for text in texts_up_to(5) + large_texts():
            tree, plain = Tree(text), Plain(text)
            flags = random_flags(chance, plain.forks)
            entries = [f"x{'y' * chance.randrange(9)}{slot}" for slot in range(plain.slots)]
            cache = Cache(tree, flags, entries)
            table = slot_table(cache)
            self.exactly(len(table), plain.slots)
            for slot, line in enumerate(table):
                victim = slot == plain.victim(flags)
                number = eviction_numbers(tree, flags)[slot]
                self.exactly(line, "%3d %-12s %3d" % (slot, entries[slot], number) + (" *" if victim else ""))
            self.exactly((cache.flags, cache.listed()), (flags, entries))
            table.clear()
            self.exactly(len(slot_table(cache)), plain.slots)


class ForkTableTest(Case):
    def test_the_example(self):
        self.exactly(fork_table(Tree("((..).)"), "RL"), ["  0  0  1 R", "  1  0  2 L"])
        self.exactly([fork_table(Tree("."), ""), fork_table(Tree("(..)"), "L")], [[], ["  0  0  1 L"]])

    def test_columns(self):
        chance = random.Random(272)
        for text in texts_up_to(5) + large_texts():
            plain = Plain(text)
            flags = random_flags(chance, plain.forks)
            right = ["%3d%3d%3d %s" % (fork, min(plain.below(fork)), max(plain.below(fork)), flags[fork]) for fork in range(plain.forks)]
            table = fork_table(Tree(text), flags)
            self.exactly(table, right)
            table.clear()
            self.exactly(fork_table(Tree(text), flags), right)

    def test_wrong_arguments(self):
        check_wrong(self, fork_table, ("any", Tree(TEXT)), ("flags", "LLL"))


if __name__ == "__main__":
    unittest.main()
