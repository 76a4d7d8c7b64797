"""lastside.past: point 28."""

import functools
import itertools
import math
import random
import unittest

from lastside.errors import InvalidFlags, InvalidNumber, InvalidSlot
from lastside.past import fits_past, oldest_count, past_at, past_count, past_rank, surely_before
from lastside.trees import Tree
from tests.case import Case
from tests.plain import Plain, large_texts, texts_up_to
from tests.test_runs import random_pattern
from tests.wrong import BIG, NO_SLOTS, TEXT, check_wrong


def flags_behind(plain, order):
    """The flags behind hits at all slots in an order."""
    flags = "L" * plain.forks
    for slot in order:
        flags = plain.after(flags, slot)
    return flags


@functools.lru_cache(None)
def orders_by_flags(text):
    """All orders of the slots of a tree, ascending, by the flags to which they lead."""
    plain = Plain(text)
    found = {flags: [] for flags in plain.all_flags()}
    for order in itertools.permutations(range(plain.slots)):
        found[flags_behind(plain, order)].append(list(order))
    return found


class SmallTest(Case):
    def test_all_orders_tried(self):
        for text in texts_up_to(6):
            tree, plain = Tree(text), Plain(text)
            for flags, right in orders_by_flags(text).items():
                self.exactly(past_count(tree, flags), len(right))
                chosen = range(len(right)) if plain.slots < 6 else {0, len(right) // 3, len(right) - 1}
                for rank in chosen:
                    self.exactly(past_at(tree, flags, rank), right[rank])
                    self.exactly(past_rank(tree, flags, right[rank]), rank)
                for rank in (len(right), BIG):
                    self.refuses(InvalidNumber, (rank,), past_at, tree, flags, rank)
                victim = plain.victim(flags)
                self.exactly(oldest_count(tree, flags), len([order for order in right if order[0] == victim]))

    def test_which_orders_fit(self):
        for text in texts_up_to(5):
            tree, plain = Tree(text), Plain(text)
            for flags, right in orders_by_flags(text).items():
                for order in itertools.permutations(range(plain.slots)):
                    fit = list(order) in right
                    self.exactly(fits_past(tree, flags, list(order)), fit)
                    if not fit:
                        self.refuses(InvalidSlot, (list(order),), past_rank, tree, flags, list(order))

    def test_what_surely_stands_before(self):
        for text in texts_up_to(5):
            tree, plain = Tree(text), Plain(text)
            for flags, right in orders_by_flags(text).items():
                for slot, other in itertools.product(range(plain.slots), repeat=2):
                    before = all(order.index(slot) < order.index(other) for order in right)
                    self.exactly(surely_before(tree, flags, slot, other), before)

    def test_where_the_victim_stands(self):
        for text in texts_up_to(6):
            plain = Plain(text)
            for flags, right in orders_by_flags(text).items():
                victim = plain.victim(flags)
                last = max(order.index(victim) for order in right)
                self.assertEqual(last, plain.slots - 1 - len(plain.paths[victim]))
                self.assertGreater(oldest_count(Tree(text), flags), 0)

    def test_one_slot(self):
        tree = Tree(".")
        self.exactly([past_count(tree, ""), past_at(tree, "", 0), past_rank(tree, "", [0]), oldest_count(tree, "")],
                     [1, [0], 0, 1])
        self.exactly([fits_past(tree, "", [0]), surely_before(tree, "", 0, 0)], [True, False])
        self.refuses(InvalidSlot, ([],), past_rank, tree, "", [])
        self.refuses(InvalidNumber, (1,), past_at, tree, "", 1)


class LargeTest(Case):
    def test_ranks(self):
        chance = random.Random(91)
        for text in large_texts():
            tree, plain = Tree(text), Plain(text)
            for flags in (random_pattern(chance, 63, "LR"), random_pattern(chance, 63, "LR"), "L" * 63, "R" * 63):
                total = past_count(tree, flags)
                orders = [past_at(tree, flags, rank) for rank in sorted([0, chance.randrange(total), total - 1])]
                self.assertEqual(orders, sorted(orders))
                for order in orders:
                    self.assertEqual(sorted(order), list(range(64)))
                    self.assertEqual(flags_behind(plain, order), flags)
                    self.exactly(fits_past(tree, flags, order), True)
                    self.exactly(past_at(tree, flags, past_rank(tree, flags, order)), order)
                self.exactly(past_rank(tree, flags, orders[-1]), total - 1)
                self.refuses(InvalidNumber, (total,), past_at, tree, flags, total)
                self.assertLessEqual(0 < oldest_count(tree, flags), total)

    def test_orders_of_use(self):
        chance = random.Random(92)
        for text in large_texts():
            tree, plain = Tree(text), Plain(text)
            order = list(range(64))
            chance.shuffle(order)
            flags = flags_behind(plain, order)
            self.exactly(fits_past(tree, flags, order), True)
            self.exactly(past_at(tree, flags, past_rank(tree, flags, order)), order)
            for place in range(63):
                if surely_before(tree, flags, order[place], order[place + 1]):
                    changed = order[:place] + [order[place + 1], order[place]] + order[place + 2:]
                    self.exactly(fits_past(tree, flags, changed), False)
            other = flags_behind(plain, order[::-1])
            self.exactly(fits_past(tree, other, order), other == flags)

    def test_combs(self):
        comb = Tree.comb(64)
        # With all flags R every other trail hangs on that of slot 63 by itself.
        self.exactly(past_count(comb, "R" * 63), math.factorial(63))
        self.exactly(past_at(comb, "R" * 63, 0), list(range(64)))
        self.exactly(past_at(comb, "R" * 63, math.factorial(63) - 1), list(range(62, -1, -1)) + [63])
        self.exactly(oldest_count(comb, "R" * 63), math.factorial(62))
        self.exactly(past_count(comb, "L" * 63), 1)
        self.exactly(past_at(comb, "L" * 63, 0), list(range(63, -1, -1)))
        self.exactly(oldest_count(comb, "L" * 63), 1)
        self.exactly([surely_before(comb, "L" * 63, 40, 3), surely_before(comb, "L" * 63, 3, 40)], [True, False])
        self.exactly([surely_before(comb, "R" * 63, 40, 3), surely_before(comb, "R" * 63, 40, 63)], [False, True])

    def test_an_even_tree(self):
        # Below a fork of height h the trail that its flags follow has h forks, and a tree of each lower height hangs on it.
        total = math.factorial(64)
        for height in range(7):
            many = 2 ** (6 - height)
            # Of the nodes of this height each one begins a trail, but for those that follow a flag from above.
            begins = many if height == 6 else many // 2
            total //= (2 ** height) ** begins
        self.exactly(past_count(Tree.even(6), "LR" * 31 + "L"), total)


class ArgumentsTest(Case):
    def test_wrong_arguments(self):
        tree = Tree(TEXT)
        flags, order = ("flags", "LLL"), ("order", [3, 2, 1, 0])
        check_wrong(self, past_count, ("any", tree), flags)
        check_wrong(self, past_at, ("any", tree), flags, ("number", 0))
        check_wrong(self, past_rank, ("any", tree), flags, order)
        check_wrong(self, fits_past, ("any", tree), flags, order)
        check_wrong(self, surely_before, ("any", tree), flags, ("slot", 0), ("slot", 1))
        check_wrong(self, oldest_count, ("any", tree), flags)

    def test_wrong_orders(self):
        tree = Tree(TEXT)
        for function in (past_rank, fits_past):
            self.refuses(InvalidSlot, ([2, 0, 3],), function, tree, "LLL", [2, 0, 3])
            self.refuses(InvalidSlot, ([],), function, tree, "LLL", [])
            self.refuses(InvalidSlot, (2,), function, tree, "LLL", [2, 0, 2, 1])
            self.refuses(InvalidSlot, (1,), function, tree, "LLL", [3, 2, 1, 0, 1])
            self.refuses(InvalidSlot, (4,), function, tree, "LLL", [3, 2, 1, 0, 4])
            self.refuses(InvalidSlot, ((3, 2, 1, 0),), function, tree, "LLL", (3, 2, 1, 0))
            for slot in NO_SLOTS:
                self.refuses(InvalidSlot, (slot,), function, tree, "LLL", [3, 2, slot])
                self.refuses(InvalidSlot, (slot,), function, tree, "LLL", [3, 2, 1, slot])
            self.refuses(InvalidFlags, ("LL?",), function, tree, "LL?", [2, 0, 3])
        # All slots stand in it, but it does not fit.
        self.refuses(InvalidSlot, ([0, 1, 2, 3],), past_rank, tree, "LLL", [0, 1, 2, 3])
        self.exactly(fits_past(tree, "LLL", [0, 1, 2, 3]), False)

    def test_orders_stay_and_are_new(self):
        tree, order = Tree(TEXT), [3, 2, 1, 0]
        self.exactly(fits_past(tree, "LLL", order), True)
        past_rank(tree, "LLL", order)
        self.exactly(order, [3, 2, 1, 0])
        first = past_at(tree, "LLL", 0)
        before = list(first)
        first.clear()
        self.exactly(past_at(tree, "LLL", 0), before)


if __name__ == "__main__":
    unittest.main()
