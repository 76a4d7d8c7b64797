"""lastside.alike: points 42 and 43."""

import itertools
import random
import unittest

from lastside.alike import alike, groups, parting_number, queue_order, signature
from lastside.caches import Cache
from lastside.compare import compare, parted_at
from lastside.errors import InvalidEntry
from lastside.keepers import QueueKeeper, SideKeeper
from lastside.trees import Tree
from tests.case import Case
from tests.plain import Plain, all_shapes, large_texts, size, texts_up_to, written
from tests.test_compare import plain_compare
from tests.test_keepers import names, random_flags
from tests.wrong import TEXT, check_wrong


def keeper_of(cache):
    return SideKeeper(cache.tree, cache.flags, cache.listed())


def plain_groups(plain, entries):
    """The groups by the words of point 42."""
    return sorted(tuple(sorted(entries[slot] for slot in plain.below(fork))) for fork in range(plain.forks))


def plain_signature(shape, flags, entries):
    """The smallest entry below nested pairs and their signature, by the words of point 42."""
    if shape is None:
        return entries[0], entries[0]
    many = size(shape[0])
    left = plain_signature(shape[0], flags[:many - 1], entries[:many])
    right = plain_signature(shape[1], flags[many:], entries[many:])
    if flags[many - 1] == "L":
        left = (left[0], "!" + left[1])
    else:
        right = (right[0], "!" + right[1])
    first, last = (left, right) if left[0] < right[0] else (right, left)
    return first[0], "(" + first[1] + "," + last[1] + ")"


def all_caches(many):
    """All caches of all trees of so many slots with the entries a, b, ..: tuples (text, flags, entries)."""
    rows = []
    for text in texts_up_to(many, low=many):
        for flags in Plain(text).all_flags():
            for entries in itertools.permutations("abcdef"[:many]):
                rows.append((text, flags, entries))
    return rows


def behaviour_rounds(rows):
    """For each cache the classes in which it lies after 0, 1, .. requests, until nothing more is told apart.

    Equal requests keep the pairing of slots as long as the answers are equal, so a load counts as a request for
    the entry that it evicts, and two caches differ at once if they would evict different entries.
    """
    plains = {text: Plain(text) for text, _, _ in rows}
    after = {(text, flags, slot): plain.after(flags, slot) for text, plain in plains.items()
             for flags in plain.all_flags() for slot in range(plain.slots)}
    steps = {(text, flags, entries): [(text, after[text, flags, entries.index(entry)], entries) for entry in sorted(entries)]
             for text, flags, entries in rows}
    now = {row: row[2][plains[row[0]].victim(row[1])] for row in rows}
    rounds = [now]
    while True:
        marks = {row: (now[row],) + tuple(now[behind] for behind in steps[row]) for row in rows}
        numbers = {mark: number for number, mark in enumerate(sorted(set(marks.values()), key=str))}
        following = {row: numbers[marks[row]] for row in rows}
        rounds.append(following)
        if len(set(following.values())) == len(set(now.values())):
            return rounds
        now = following


class SignatureTest(Case):
    def test_the_example(self):
        cache = Cache(Tree("((..).)"), "RL", ["b", "a", "c"])
        self.exactly(signature(cache), "(!(!a,b),c)")
        self.exactly(groups(cache), [("a", "b"), ("a", "b", "c")])

    def test_written_out(self):
        self.exactly([signature(Cache(Tree("."), "", ["zz"])), groups(Cache(Tree("."), "", ["zz"]))], ["zz", []])
        self.exactly(signature(Cache(Tree("(..)"), "L", ["b", "a"])), "(a,!b)")
        self.exactly(signature(Cache(Tree("(..)"), "R", ["b", "a"])), "(!a,b)")
        # As Python compares texts, "10" comes before "9", and digits before letters.
        cache = Cache(Tree(TEXT), "LRR", ["9", "10", "a", "0b"])
        self.exactly(signature(cache), "(!(!0b,a),(10,!9))")
        self.exactly(groups(cache), [("0b", "10", "9", "a"), ("0b", "a"), ("10", "9")])

    def test_texts(self):
        chance = random.Random(196)
        for text in texts_up_to(6) + large_texts():
            for _ in range(10):
                plain = Plain(text)
                entries = chance.sample(names(plain.slots) + [f"{number}" for number in range(40)], plain.slots)
                flags = random_flags(chance, plain.forks)
                self.exactly(signature(Cache(Tree(text), flags, entries)), plain_signature(plain.shape, flags, entries)[1])

    def test_all_caches_of_up_to_five_slots(self):
        for many in (1, 2, 3, 4, 5):
            rows = all_caches(many)
            classes = behaviour_rounds(rows)[-1]
            told = {}
            for text, flags, entries in rows:
                told.setdefault(signature(Cache(Tree(text), flags, list(entries))), set()).add(classes[text, flags, entries])
            # Each signature has one class, and each class one signature.
            self.assertEqual({len(found) for found in told.values()}, {1})
            self.assertEqual(len(set().union(*told.values())), len(told))
            self.assertEqual(len(told), len(set(classes.values())))

    def test_alike_and_following_requests(self):
        chance = random.Random(191)
        words = []
        for _ in range(300):
            many = chance.randrange(1, 5)
            first, second = [Cache(Tree(written(chance.choice(all_shapes(many)))), random_flags(chance, many - 1),
                                   chance.sample(names(many), many)) for _ in range(2)]
            word, number = plain_compare(keeper_of(first), keeper_of(second), 40)
            words.append(word)
            self.exactly(alike(first, second), word == "alike")
            self.exactly(alike(second, first), word == "alike")
            if groups(first) == groups(second):
                self.exactly(parting_number(first, second), None if word == "alike" else number)
        self.assertGreater(words.count("alike"), 10)

    def test_other_entries(self):
        tree = Tree("(..)")
        cache = Cache(tree, "L", ["a", "b"])
        self.exactly([alike(cache, cache.twin()), alike(cache, Cache(tree, "R", ["b", "a"]))], [True, True])
        for other in (Cache(tree, "L", ["a", "c"]), Cache(tree, "R", ["a", "b"]), Cache(tree, "L", ["b", "a"]),
                      Cache(Tree("."), "", ["a"]), Cache(Tree("((..).)"), "LL", ["a", "b", "c"])):
            self.exactly([alike(cache, other), alike(other, cache)], [False, False])
        self.exactly(alike(Cache(Tree("."), "", ["a"]), Cache(Tree("."), "", ["b"])), False)
        self.exactly(alike(Cache(Tree("."), "", ["a"]), Cache(Tree("."), "", ["a"])), True)

    def test_groups_of_all_small_trees(self):
        chance = random.Random(192)
        for text in texts_up_to(6) + large_texts():
            plain = Plain(text)
            entries = chance.sample(names(plain.slots), plain.slots)
            cache = Cache(Tree(text), random_flags(chance, plain.forks), entries)
            self.exactly(groups(cache), plain_groups(plain, entries))

    def test_large_trees(self):
        chance = random.Random(193)
        for text in large_texts():
            tree = Tree(text)
            flags, entries = random_flags(chance, 63), chance.sample(names(64), 64)
            cache = Cache(tree, flags, entries)
            turned = "".join({"L": "R", "R": "L"}[side] for side in flags[::-1])
            other = Cache(tree.mirrored(), turned, entries[::-1])
            self.exactly([signature(cache) == signature(other), alike(cache, other), parting_number(cache, other)],
                         [True, True, None])
            self.exactly(parted_at(keeper_of(cache), keeper_of(other), [f"x{number % 90}" for number in range(300)]), None)
            self.exactly(sorted(signature(cache).replace("(", "").replace(")", "").replace("!", "").split(",")), sorted(entries))
            fork = chance.randrange(63)
            changed = flags[:fork] + {"L": "R", "R": "L"}[flags[fork]] + flags[fork + 1:]
            parted = parting_number(cache, Cache(tree, changed, entries))
            # One fork differs: the number tells how deep flags above show towards it.
            paths = [path for path in Plain(text).paths if fork in [step[0] for step in path]]
            above = paths[0][:[step[0] for step in paths[0]].index(fork)]
            right = max([depth for depth, (other, side) in enumerate(above, 1) if flags[other] == side], default=0)
            self.exactly(parted, 2 + right)


class PartingTest(Case):
    def check_pairs(self, rows, pairs, rounds):
        """The parting number is 2 plus the number of requests behind which the caches would evict different entries."""
        for first, second in pairs:
            parted = [number for number, classes in enumerate(rounds) if classes[first] != classes[second]]
            caches = [Cache(Tree(text), flags, list(entries)) for text, flags, entries in (first, second)]
            self.exactly(parting_number(*caches), 2 + parted[0] if parted else None)

    def by_groups(self, rows):
        found = {}
        for text, flags, entries in rows:
            found.setdefault(str(plain_groups(Plain(text), entries)), []).append((text, flags, entries))
        return list(found.values())

    def test_all_pairs_of_up_to_three_slots(self):
        for many in (2, 3):
            rows = all_caches(many)
            rounds = behaviour_rounds(rows)
            for same in self.by_groups(rows):
                self.check_pairs(rows, itertools.product(same, repeat=2), rounds)

    def test_pairs_of_four_and_five_slots(self):
        chance = random.Random(194)
        for many, wanted in ((4, 200), (5, 40)):
            rows = all_caches(many)
            rounds = behaviour_rounds(rows)
            for same in self.by_groups(rows):
                self.check_pairs(rows, [chance.choices(same, k=2) for _ in range(wanted)], rounds)

    def test_written_out(self):
        def even(flags):
            return Cache(Tree(TEXT), flags, ["a", "b", "c", "d"])

        # The root differs; a fork below it differs that the root does not show; one that it shows.
        self.exactly([parting_number(even("LLL"), even("LRL")), parting_number(even("LLL"), even("LLR")),
                      parting_number(even("LLL"), even("RLL")), parting_number(even("LLL"), even("RLR")),
                      parting_number(even("LLL"), even("LLL"))], [2, 2, 3, 2, None])
        comb = Tree.comb(4)
        self.exactly(parting_number(Cache(comb, "RRL", list("abcd")), Cache(comb, "RRR", list("abcd"))), 4)
        self.exactly(parting_number(Cache(comb, "LRL", list("abcd")), Cache(comb, "LRR", list("abcd"))), 4)
        self.exactly(parting_number(Cache(comb, "RLL", list("abcd")), Cache(comb, "RLR", list("abcd"))), 3)

    def test_one_slot(self):
        one, other, two = Cache(Tree("."), "", ["a"]), Cache(Tree("."), "", ["b"]), Cache(Tree("(..)"), "L", ["a", "b"])
        self.exactly([parting_number(one, other), parting_number(one, one), parting_number(one, one.twin())], [1, None, None])
        self.refuses(InvalidEntry, ([("a", "b")],), parting_number, one, two)
        self.refuses(InvalidEntry, ([],), parting_number, two, one)

    def test_other_groups(self):
        first = Cache(Tree("((..).)"), "LL", ["a", "b", "c"])
        for other in (Cache(Tree("((..).)"), "LL", ["a", "c", "b"]), Cache(Tree("(.(..))"), "LL", ["a", "b", "c"]),
                      Cache(Tree("((..).)"), "LL", ["a", "b", "d"]), Cache(Tree("(..)"), "L", ["a", "b"])):
            self.refuses(InvalidEntry, (groups(other),), parting_number, first, other)
            self.refuses(InvalidEntry, (groups(first),), parting_number, other, first)
        # The same groups from a tree with other sides.
        self.exactly(parting_number(first, Cache(Tree("(.(..))"), "RR", ["c", "b", "a"])), None)


class QueueTest(Case):
    def test_the_example(self):
        self.exactly(queue_order(Tree("((..)(..))"), "LLL"), [3, 1, 2, 0])
        self.exactly([queue_order(Tree("."), ""), queue_order(Tree("(..)"), "L"), queue_order(Tree("(..)"), "R")], [[0], [1, 0], [0, 1]])

    def test_even_trees_behave_like_queues(self):
        for height in (0, 1, 2):
            tree = Tree.even(height)
            for flags in Plain(tree.text).all_flags():
                entries = names(len(tree))
                order = queue_order(tree, flags)
                self.exactly(compare(SideKeeper(tree, flags, entries, "kta"), QueueKeeper(entries, order))[0], "alike")
        chance = random.Random(195)
        for height in (3, 4, 5, 6):
            tree = Tree.even(height)
            flags, entries = random_flags(chance, tree.forks), names(len(tree))
            order = queue_order(tree, flags)
            self.exactly(sorted(order), list(range(len(tree))))
            requests = [f"e{chance.randrange(2 * len(tree))}" for _ in range(600)]
            self.exactly(parted_at(SideKeeper(tree, flags, entries, "kta"), QueueKeeper(entries, order), requests), None)

    def test_other_trees_behave_like_no_queue(self):
        for text in texts_up_to(5) + large_texts():
            tree = Tree(text)
            for flags in (Plain(text).all_flags() if len(tree) < 6 else ["L" * 63]):
                order = queue_order(tree, flags)
                self.assertIs(order is None, not tree.is_even)
                if len(tree) < 5 and order is None:
                    keeper = SideKeeper(tree, flags, names(len(tree)), "kta")
                    for other in itertools.permutations(range(len(tree))):
                        self.exactly(compare(keeper, QueueKeeper(names(len(tree)), list(other)))[0], "parted")

    def test_wrong_arguments(self):
        check_wrong(self, queue_order, ("any", Tree(TEXT)), ("flags", "LLL"))
        check_wrong(self, queue_order, ("any", Tree("(.(.(..)))")), ("flags", "LLL"))


class StayTest(Case):
    def test_caches_and_lists_stay(self):
        first, second = Cache(Tree(TEXT), "LRL", list("abcd")), Cache(Tree(TEXT), "RRL", list("abcd"))
        order = queue_order(first.tree, "LRL")
        rows = groups(first)
        before = list(rows)
        self.exactly(parting_number(first, second), 2)
        order.clear()
        rows.clear()
        self.exactly([groups(first), len(queue_order(first.tree, "LRL")), first.flags, first.listed(), second.flags],
                     [before, 4, "LRL", list("abcd"), "RRL"])


if __name__ == "__main__":
    unittest.main()
