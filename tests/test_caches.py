"""lastside.caches: points 1, 3 and 9."""

import random
import unittest

from lastside.caches import Cache
from lastside.errors import InvalidEntry, InvalidFlags, InvalidSlot
from lastside.trees import Tree
from tests.case import Case, other_than
from tests.plain import STRANGE, Plain, large_texts, texts_up_to
from tests.wrong import NO_ENTRIES


def is_number(value):
    return isinstance(value, int) and not isinstance(value, bool)


def four():
    return Cache(Tree("((..)(..))"), "LLL", ["a", "b", "c", "d"])


class CacheTest(Case):
    def test_the_example(self):
        cache = four()
        answers = [cache.request("x"), cache.request("b"), cache.request("y")]
        self.exactly(answers, [("load", 3, "d"), ("hit", 1, None), ("load", 2, "c")])
        self.exactly(cache.flags, "RRL")
        self.exactly(cache.listed(), ["a", "b", "y", "x"])

    def test_attributes(self):
        tree = Tree("((..)(..))")
        cache = Cache(tree, "LRL", ["a", "b", "c", "d"])
        self.assertEqual(vars(cache)["tree"], tree)
        self.exactly(vars(cache)["flags"], "LRL")
        self.exactly(len(cache), 4)
        self.exactly(cache.victim, 1)
        self.exactly(cache.listed(), ["a", "b", "c", "d"])
        self.exactly([cache.at(slot) for slot in range(4)], ["a", "b", "c", "d"])
        self.exactly([cache.slot_of(entry) for entry in "abcdx"], [0, 1, 2, 3, None])

    def test_long_runs(self):
        chance = random.Random(11)
        for text in texts_up_to(7) + large_texts():
            plain = Plain(text)
            flags = "".join(chance.choice("LR") for _ in range(plain.forks))
            entries = [f"e{slot}" for slot in range(plain.slots)]
            cache = Cache(Tree(text), flags, entries)
            for number in range(60):
                word = chance.choice(["old", "new", "hit"])
                victim = plain.victim(flags)
                self.exactly(cache.victim, victim)
                if word == "new":
                    self.exactly(cache.request(f"n{number}"), ("load", victim, entries[victim]))
                    entries[victim] = f"n{number}"
                    flags = plain.after(flags, victim)
                else:
                    slot = chance.randrange(plain.slots)
                    if word == "old":
                        self.exactly(cache.request(entries[slot]), ("hit", slot, None))
                    else:
                        self.exactly(cache.hit(slot), entries[slot])
                    flags = plain.after(flags, slot)
                self.exactly((cache.flags, cache.listed()), (flags, entries))
                self.exactly([cache.slot_of(entry) for entry in entries], list(range(plain.slots)))

    def test_one_slot(self):
        cache = Cache(Tree("."), "", ["a"])
        self.exactly([cache.victim, len(cache), cache.request("a"), cache.request("b"), cache.request("a")],
                     [0, 1, ("hit", 0, None), ("load", 0, "a"), ("load", 0, "b")])
        self.exactly((cache.flags, cache.listed(), cache.hit(0)), ("", ["a"], "a"))

    def test_an_evicted_entry_is_gone(self):
        cache = four()
        cache.request("x")
        self.assertFalse("d" in cache)
        self.assertTrue("x" in cache)
        self.exactly(cache.slot_of("d"), None)
        self.exactly(cache.slot_of("x"), 3)
        self.exactly(cache.request("d"), ("load", 1, "b"))

    def test_contained(self):
        cache = four()
        for entry in "abcd":
            self.assertIs(entry in cache, True)
        for value in STRANGE + NO_ENTRIES + ["ab", "e0", "abc", cache]:
            self.assertIs(value in cache, False)

    def test_equality(self):
        self.assertTrue(four() == four())
        self.assertFalse(four() != four())
        tree = Tree("((..)(..))")
        others = [Cache(tree, "LLR", ["a", "b", "c", "d"]), Cache(tree, "LLL", ["a", "b", "d", "c"]),
                  Cache(tree, "LLL", ["a", "b", "c", "e"]), Cache(Tree("(.(.(..)))"), "LLL", ["a", "b", "c", "d"])]
        for other in others + STRANGE + [tree, "((..)(..)) LLL a,b,c,d"]:
            self.assertIs(four() == other, False)
            self.assertIs(four() != other, True)
        changed = four()
        changed.hit(0)
        self.assertTrue(changed == four())
        changed.hit(1)
        self.assertFalse(changed == four())

    def test_twin(self):
        cache = four()
        cache.request("x")
        twin = cache.twin()
        self.assertTrue(twin == cache)
        self.assertIs(type(twin), Cache)
        twin.request("y")
        self.exactly((cache.flags, cache.listed()), ("LRR", ["a", "b", "c", "x"]))
        cache.request("z")
        cache.hit(0)
        self.exactly((twin.flags, twin.listed()), ("RLR", ["a", "y", "c", "x"]))

    def test_fresh(self):
        for text in texts_up_to(5) + large_texts():
            tree = Tree(text)
            cache = Cache.fresh(tree)
            self.assertEqual(cache, Cache(tree, "L" * tree.forks, [f"e{slot}" for slot in range(len(tree))]))
        self.exactly(Cache.fresh(Tree("(.(..))")).listed(), ["e0", "e1", "e2"])
        self.exactly(Cache.fresh(Tree("(.(..))")).flags, "LL")

    def test_lists_are_copied(self):
        entries = ["a", "b", "c", "d"]
        cache = Cache(Tree("((..)(..))"), "LLL", entries)
        entries[0] = "z"
        entries.append("y")
        self.exactly(cache.listed(), ["a", "b", "c", "d"])
        listed = cache.listed()
        listed[1] = "z"
        listed.clear()
        self.exactly(cache.listed(), ["a", "b", "c", "d"])
        cache.request("x")
        self.exactly(entries, ["z", "b", "c", "d", "y"])


class WrongArgumentsTest(Case):
    def test_entries_of_the_constructor(self):
        tree = Tree("(.(..))")
        lists = [["a", "b"], ["a", "b", "c", "d"], [], ("a", "b", "c"), "abc", None, True, 3, {"a": 1, "b": 2, "c": 3}]
        for value in lists:
            self.refuses(InvalidEntry, (value,), Cache, tree, "LL", value)
        for value in NO_ENTRIES:
            self.refuses(InvalidEntry, (value,), Cache, tree, "LL", ["a", value, "a"])
            self.refuses(InvalidEntry, (value,), Cache, tree, "LL", [value, "a", ""])
        self.refuses(InvalidEntry, ("a",), Cache, tree, "LL", ["a", "b", "a"])
        self.refuses(InvalidEntry, ("b",), Cache, tree, "LL", ["b", "b", "B"])
        self.refuses(InvalidEntry, ("B",), Cache, tree, "LL", ["b", "B", "b"])
        self.refuses(InvalidEntry, ([],), Cache, Tree("."), "", [])

    def test_sizes_of_entries(self):
        tree = Tree("(.(..))")
        entries = ["a", "a" * 12, "0123456789az"]
        self.exactly(Cache(tree, "LL", entries).listed(), entries)
        letters = "abcdefghijklmnopqrstuvwxyz0123456789"
        comb = Tree.comb(36)
        self.exactly(Cache(comb, "L" * 35, list(letters)).listed(), list(letters))

    def test_flags_of_the_constructor(self):
        tree = Tree("(.(..))")
        for value in STRANGE + ["L", "LLL", "L?", "ll", ["L", "L"], ("L", "L")]:
            self.refuses(InvalidFlags, (value,), Cache, tree, value, ["a", "b", "c"])
            self.refuses(InvalidFlags, (value,), Cache, tree, value, None)

    def test_methods(self):
        for value in NO_ENTRIES:
            cache = four()
            self.refuses(InvalidEntry, (value,), cache.request, value)
            self.refuses(InvalidEntry, (value,), cache.slot_of, value)
            self.assertEqual(cache, four())
        for value in other_than(is_number, STRANGE) + [-1, 4, 63, 64, 10 ** 59]:
            cache = four()
            self.refuses(InvalidSlot, (value,), cache.hit, value)
            self.refuses(InvalidSlot, (value,), cache.at, value)
            self.assertEqual(cache, four())


if __name__ == "__main__":
    unittest.main()
