"""lastside.hitplans: point 26."""

import itertools
import random
import unittest

from lastside.errors import InvalidFlags, InvalidNumber, InvalidSlot
from lastside.hitplans import hit_plan_at, hit_plan_count, hit_plan_rank, is_hit_plan
from lastside.trails import hangs_on, needed
from lastside.trees import Tree
from tests.case import Case, alike
from tests.plain import STRANGE, Plain, large_texts, texts_up_to
from tests.test_runs import random_pattern
from tests.test_trails import hits_needed, random_states
from tests.wrong import BIG, NO_SLOTS, TEXT, check_wrong, variations


def plain_hit_plans(plain, start, end):
    """The shortest rows of hits that lead from all flags that fit the start to the end, by trying all rows."""
    found = []
    for row in itertools.product(range(plain.slots), repeat=hits_needed(plain, start, end)):
        states = set(plain.fitting(start))
        for slot in row:
            states = {plain.after(flags, slot) for flags in states}
        if states == {end}:
            found.append(list(row))
    return found


def small_states():
    """Small trees with a start and an end."""
    chance = random.Random(81)
    # Three trails hang on the one from the root, and each of them has a fork.
    yield Plain("((..)((..)((..).)))"), "??????", "LRLRLR"
    for text in texts_up_to(4):
        plain = Plain(text)
        for start in plain.all_patterns():
            for end in plain.all_flags():
                if plain.forks < 3 or chance.random() < 0.4:
                    yield plain, start, end
    for text in texts_up_to(6, low=5):
        plain = Plain(text)
        for letters in ("LR?", "R?"):
            yield plain, random_pattern(chance, plain.forks, letters), random_pattern(chance, plain.forks, "LR")


class SmallTest(Case):
    def test_all_rows_tried(self):
        found = set()
        for plain, start, end in small_states():
            tree = Tree(plain.text)
            right = plain_hit_plans(plain, start, end)
            found.add(len(right))
            self.exactly(hit_plan_count(tree, start, end), len(right))
            for rank, row in enumerate(right):
                self.exactly(hit_plan_at(tree, start, end, rank), row)
                self.exactly(hit_plan_rank(tree, start, end, row), rank)
                self.exactly(is_hit_plan(tree, start, end, row), True)
            for rank in (len(right), len(right) + 1, BIG):
                self.refuses(InvalidNumber, (rank,), hit_plan_at, tree, start, end, rank)
        self.assertLessEqual({1, 2, 3, 6}, found)

    def test_all_rows_of_a_small_tree(self):
        for text in ("(.(..))", TEXT):
            tree, plain = Tree(text), Plain(text)
            for start, end in [("L" * plain.forks, "R" * plain.forks), ("?" * plain.forks, "LR" * 9), ("L?R", "LLR")]:
                start, end = start[:plain.forks], end[:plain.forks]
                right = plain_hit_plans(plain, start, end)
                for many in range(4):
                    for row in itertools.product(range(-1, plain.slots + 1), repeat=many):
                        self.exactly(is_hit_plan(tree, start, end, list(row)), list(row) in right)
                        if list(row) not in right:
                            self.refuses(InvalidSlot, (list(row),), hit_plan_rank, tree, start, end, list(row))

    def test_start_and_end_equal(self):
        for text in texts_up_to(5):
            tree, plain = Tree(text), Plain(text)
            for flags in plain.all_flags():
                self.exactly(hit_plan_count(tree, flags, flags), 1)
                self.exactly(hit_plan_at(tree, flags, flags, 0), [])
                self.exactly(hit_plan_rank(tree, flags, flags, []), 0)
                self.exactly(is_hit_plan(tree, flags, flags, []), True)
                self.exactly(is_hit_plan(tree, flags, flags, [plain.victim(flags)]), False)
                self.refuses(InvalidNumber, (1,), hit_plan_at, tree, flags, flags, 1)

    def test_the_empty_row_where_hits_are_needed(self):
        self.exactly(is_hit_plan(Tree(TEXT), "LLL", "LLR", []), False)
        self.refuses(InvalidSlot, ([],), hit_plan_rank, Tree(TEXT), "LLL", "LLR", [])


class LargeTest(Case):
    def test_ranks(self):
        chance = random.Random(82)
        greatest = 0
        for plain, start, end in random_states(4):
            tree = Tree(plain.text)
            total = hit_plan_count(tree, start, end)
            greatest = max(greatest, total)
            rows = [hit_plan_at(tree, start, end, rank) for rank in sorted([0, chance.randrange(total), total - 1])]
            self.assertEqual(rows, sorted(rows))
            for row in rows:
                self.exactly(is_hit_plan(tree, start, end, row), True)
                self.exactly(hit_plan_at(tree, start, end, hit_plan_rank(tree, start, end, row)), row)
                flags = start
                for slot in row:
                    flags = plain.after(flags, slot)
                self.assertEqual(flags, end)
                self.assertEqual(sorted(row), needed(tree, start, end))
            self.exactly(hit_plan_rank(tree, start, end, rows[-1]), total - 1)
            self.refuses(InvalidNumber, (total,), hit_plan_at, tree, start, end, total)
        self.assertGreater(greatest, 10 ** 10)

    def test_the_number_by_the_formula(self):
        for plain, start, end in random_states(2):
            tree = Tree(plain.text)
            slots = needed(tree, start, end)
            sizes = {slot: 0 for slot in slots}
            for slot in slots:
                while slot is not None:
                    sizes[slot] += 1
                    slot = hangs_on(tree, end, slot)
            total = 1
            for number in range(1, len(slots) + 1):
                total *= number
            divisor = 1
            for size in sizes.values():
                divisor *= size
            self.assertEqual(total % divisor, 0)
            self.exactly(hit_plan_count(tree, start, end), total // divisor)

    def test_a_comb(self):
        comb = Tree.comb(64)
        # Each trail of these flags hangs on the one above it, so there is one row only.
        row = list(range(62, -1, -1))
        self.exactly(hit_plan_count(comb, "?" * 63, "L" * 63), 1)
        self.exactly(hit_plan_at(comb, "R" * 63, "L" * 63, 0), row)
        self.exactly(hit_plan_rank(comb, "R" * 63, "L" * 63, row), 0)
        self.exactly(hit_plan_count(comb, "L" * 63, "R" * 63), 1)
        self.exactly(hit_plan_at(comb, "L" * 63, "R" * 63, 0), [63])


class AnyValueTest(Case):
    def test_changed_rows(self):
        tree = Tree(TEXT)
        for start, end in [("LRL", "RRL"), ("???", "LLL"), ("LLL", "LLL"), ("LLL", "RRR")]:
            right = plain_hit_plans(Plain(TEXT), start, end)
            values = STRANGE + [[slot] for slot in NO_SLOTS] + [[slot, 2] for slot in NO_SLOTS]
            values += [value for row in right for value in variations(row)] + [right, tuple(right)]
            for value in values:
                is_right = any(alike(value, row) for row in right)
                self.assertIs(is_hit_plan(tree, start, end, value), is_right, value)
                if not is_right:
                    self.refuses(InvalidSlot, (value,), hit_plan_rank, tree, start, end, value)

    def test_kinds(self):
        tree = Tree("(..)")
        self.exactly(is_hit_plan(tree, "L", "R", [1]), True)
        for value in ([True], (1,), [1, 1], ["1"], [[1]], [(1,)], [None], 1, "1", [0], [2], [-1], [BIG]):
            self.exactly(is_hit_plan(tree, "L", "R", value), False)
        self.exactly(is_hit_plan(tree, "R", "L", [False]), False)
        self.exactly(is_hit_plan(Tree("."), "", "", []), True)
        self.exactly(is_hit_plan(Tree("."), "", "", ()), False)
        self.exactly(is_hit_plan(Tree("."), "", "", [0]), False)


class ArgumentsTest(Case):
    def test_wrong_arguments(self):
        tree = Tree(TEXT)
        start, end = ("pattern", "LRL"), ("flags", "RRL")
        check_wrong(self, hit_plan_count, ("any", tree), start, end)
        check_wrong(self, hit_plan_at, ("any", tree), start, end, ("number", 0))
        check_wrong(self, hit_plan_rank, ("any", tree), start, end, ("any", [1, 2]))
        check_wrong(self, is_hit_plan, ("any", tree), start, end, ("any", [1, 2]))
        for function, more in [(hit_plan_rank, (None,)), (is_hit_plan, (None,)), (hit_plan_at, (BIG,))]:
            self.refuses(InvalidFlags, ("LL?",), function, tree, "LLL", "LL?", *more)

    def test_rows_stay_and_are_new(self):
        tree, row = Tree(TEXT), [1, 2]
        self.exactly(hit_plan_rank(tree, "LRL", "RRL", row), 0)
        self.exactly(is_hit_plan(tree, "LRL", "RRL", row), True)
        self.exactly(row, [1, 2])
        hit_plan_at(tree, "LRL", "RRL", 0).clear()
        self.exactly(hit_plan_at(tree, "LRL", "RRL", 0), [1, 2])


if __name__ == "__main__":
    unittest.main()
