"""lastside.weaving: points 17 and 19."""

import functools
import itertools
import random
import unittest

from lastside.errors import BrokenRun, InvalidFlags, InvalidLine, InvalidNumber, InvalidRow, TooMany
from lastside.trees import Tree
from lastside.weaving import each_weaving, first_weaving, weaving_at, weaving_count, weaving_rank
from tests.case import Case
from tests.plain import Plain, large_texts, orders, texts_up_to
from tests.test_runs import random_pattern, random_run
from tests.wrong import BIG, TEXT, check_wrong

ROWS = ["hl", "l", "h", "l"]


def random_rows(chance, slots, letters):
    rows = [""] * slots
    for _ in range(letters):
        slot = chance.randrange(slots)
        rows[slot] += chance.choice("hl")
    return rows


def woven_rows(chance, plain, length):
    """Flags, and the rows of a random run that is valid from them."""
    flags = start = random_pattern(chance, plain.forks, "LR")
    rows, run = [""] * plain.slots, []
    for _ in range(length):
        slot = plain.victim(flags) if chance.random() < 0.6 else chance.randrange(plain.slots)
        kind = "load" if slot == plain.victim(flags) and chance.random() < 0.8 else "hit"
        rows[slot] += kind[0]
        run.append((kind, slot))
        flags = plain.after(flags, slot)
    return start, rows, run, flags


def small_cases():
    """Trees with a start, rows and an end, and all weavings of the rows, found by trying all orders."""
    chance = random.Random(31)
    for text in texts_up_to(5):
        plain = Plain(text)
        for number in range(14):
            length = chance.randrange(6)
            start, rows, _, end = woven_rows(chance, plain, length)
            if number % 3 == 1:
                rows = random_rows(chance, plain.slots, length)
            start = "".join(chance.choice([flag, flag, "?"]) for flag in start)
            end = "".join(chance.choice([flag, flag, "?"]) for flag in end)
            if number % 4 == 3:
                end = random_pattern(chance, plain.forks)
            end = None if number % 5 == 4 else end
            yield plain, start, rows, end, [run for run in orders(rows) if plain.outcomes(start, run, end)]


def counted(plain, start, rows, end):
    """The number of weavings, counted line by line: a `?` in the flags stands for an unknown side."""
    @functools.lru_cache(None)
    def rest(flags, left):
        if not any(left):
            return int(all(side == last or "?" in (side, last) for side, last in zip(flags, end or flags)))
        total = 0
        for slot, row in enumerate(left):
            blocked = row[:1] == "l" and any(flags[fork] == side for fork, side in plain.paths[slot])
            if row and not blocked:
                total += rest(plain.after(flags, slot), left[:slot] + (row[1:],) + left[slot + 1:])
        return total
    return rest(start, tuple(rows))


class SmallTest(Case):
    def test_all_orders_tried(self):
        found = 0
        for plain, start, rows, end, right in small_cases():
            tree = Tree(plain.text)
            found += len(right) > 1
            self.exactly(weaving_count(tree, start, rows, end=end), len(right))
            self.exactly(first_weaving(tree, start, rows, end=end), right[0] if right else None)
            self.exactly(list(each_weaving(tree, start, rows, end=end)), right)
            for rank, run in enumerate(right):
                self.exactly(weaving_at(tree, start, rows, rank, end=end), run)
                self.exactly(weaving_rank(tree, start, run, end=end), rank)
            for rank in (len(right), len(right) + 1, BIG):
                self.refuses(InvalidNumber, (rank,), weaving_at, tree, start, rows, rank, end=end)
        self.assertGreater(found, 50)

    def test_all_rows_of_a_small_tree(self):
        tree, plain = Tree("(.(..))"), Plain("(.(..))")
        texts = ["", "h", "l", "hl", "ll"]
        for rows in itertools.product(texts, repeat=3):
            for start, end in [("LL", None), ("?R", "R?"), ("??", "LL"), ("RL", "?R")]:
                right = [run for run in orders(rows) if plain.outcomes(start, run, end)]
                self.exactly(list(each_weaving(tree, start, list(rows), end=end)), right)
                self.exactly(weaving_count(tree, start, list(rows), end=end), len(right))

    def test_rows_of_middle_size(self):
        chance = random.Random(32)
        for text in texts_up_to(7, low=6)[::6]:
            tree, plain = Tree(text), Plain(text)
            start, rows, run, flags = woven_rows(chance, plain, 12)
            start = "".join(chance.choice([flag, "?"]) for flag in start)
            for end in (None, flags, "".join(chance.choice([flag, "?"]) for flag in flags)):
                total = counted(plain, start, rows, end)
                self.assertGreater(total, 0)
                self.exactly(weaving_count(tree, start, rows, end=end), total)
                rank = weaving_rank(tree, start, run, end=end)
                self.exactly(weaving_at(tree, start, rows, rank, end=end), run)

    def test_the_example(self):
        tree = Tree(TEXT)
        self.exactly(weaving_count(tree, "LLL", ROWS), 2)
        first = [("hit", 0), ("hit", 2), ("load", 1), ("load", 3), ("load", 0)]
        second = [("hit", 0), ("load", 3), ("load", 1), ("hit", 2), ("load", 0)]
        self.exactly(first_weaving(tree, "LLL", ROWS), first)
        self.exactly(list(each_weaving(tree, "LLL", ROWS)), [first, second])
        self.exactly([weaving_at(tree, "LLL", ROWS, 0), weaving_at(tree, "LLL", ROWS, 1)], [first, second])
        self.exactly([weaving_rank(tree, "LLL", first), weaving_rank(tree, "LLL", second)], [0, 1])

    def test_no_line(self):
        tree, rows = Tree(TEXT), [""] * 4
        for start, end, many in [("LLL", None, 1), ("L?R", "?LR", 1), ("LLL", "LLR", 0), ("???", "LRL", 1), ("L??", "R??", 0)]:
            self.exactly(weaving_count(tree, start, rows, end=end), many)
            self.exactly(first_weaving(tree, start, rows, end=end), [] if many else None)
            self.exactly(list(each_weaving(tree, start, rows, end=end)), [[]] * many)
            if many:
                self.exactly(weaving_at(tree, start, rows, 0, end=end), [])
                self.exactly(weaving_rank(tree, start, [], end=end), 0)
            else:
                self.refuses(InvalidNumber, (0,), weaving_at, tree, start, rows, 0, end=end)

    def test_one_slot(self):
        tree = Tree(".")
        for row in ("", "h", "l", "hlhl", "l" * 60):
            run = [("hit" if letter == "h" else "load", 0) for letter in row]
            for end in (None, ""):
                self.exactly(weaving_count(tree, "", [row], end=end), 1)
                self.exactly(first_weaving(tree, "", [row], end=end), run)
                self.exactly(list(each_weaving(tree, "", [row], end=end)), [run])
                self.exactly(weaving_rank(tree, "", run, end=end), 0)

    def test_an_empty_part_that_does_not_fit_the_end(self):
        tree = Tree(TEXT)
        rows = ["h", "", "", ""]
        self.exactly(weaving_count(tree, "LLL", rows, end="??R"), 0)
        self.exactly(first_weaving(tree, "LLL", rows, end="??R"), None)
        self.exactly(weaving_count(tree, "LL?", rows, end="??R"), 1)
        self.exactly(weaving_count(tree, "LLR", rows, end="LLR"), 1)


class LargeTest(Case):
    def test_ranks_of_large_weavings(self):
        chance = random.Random(33)
        for text in large_texts():
            tree, plain = Tree(text), Plain(text)
            start, rows, run, end = woven_rows(chance, plain, 60)
            for last in (None, end, "?" * 63):
                total = weaving_count(tree, start, rows, end=last)
                self.assertGreater(total, 10 ** 12)
                rank = weaving_rank(tree, start, run, end=last)
                self.exactly(weaving_at(tree, start, rows, rank, end=last), run)
                first = first_weaving(tree, start, rows, end=last)
                self.exactly(weaving_rank(tree, start, first, end=last), 0)
                for rank in [0, total - 1, total // 2] + [chance.randrange(total) for _ in range(2)]:
                    made = weaving_at(tree, start, rows, rank, end=last)
                    self.exactly(weaving_rank(tree, start, made, end=last), rank)
                    self.assertIsNotNone(plain.outcome(start, made))
                    if last == end:
                        self.assertEqual(plain.outcome(start, made), end)
                self.refuses(InvalidNumber, (total,), weaving_at, tree, start, rows, total, end=last)
                near = list(itertools.islice(each_weaving(tree, start, rows, end=last), 3))
                self.exactly(near, [weaving_at(tree, start, rows, rank, end=last) for rank in range(3)])

    def test_mirrored_trees_have_as_many_weavings(self):
        chance = random.Random(34)
        turned = {"L": "R", "R": "L", "?": "?"}
        for text in large_texts():
            tree, plain = Tree(text), Plain(text)
            start, rows, _, end = woven_rows(chance, plain, 50)
            other = ["".join(turned[flag] for flag in reversed(flags)) for flags in (start, end)]
            self.assertEqual(weaving_count(tree, start, rows, end=end),
                             weaving_count(tree.mirrored(), other[0], rows[::-1], end=other[1]))

    def test_hits_alone_in_one_row_each(self):
        # Without loads and without an end every order is a weaving.
        tree = Tree.even(4)
        factorial = 1
        for number in range(1, 17):
            factorial *= number
        self.exactly(weaving_count(tree, "L" * 15, ["h"] * 16), factorial)
        self.exactly(weaving_at(tree, "?" * 15, ["h"] * 16, factorial - 1), [("hit", slot) for slot in range(15, -1, -1)])


class LimitsTest(Case):
    def test_sixty_and_sixty_one_letters(self):
        tree, one = Tree(TEXT), Tree(".")
        self.assertGreater(weaving_count(tree, "???", ["h" * 15] * 4), 0)
        self.exactly(weaving_count(one, "", ["h" * 60]), 1)
        for rows in (["h" * 15] * 3 + ["h" * 16], ["l" * 61, "", "", ""]):
            self.refuses(TooMany, (60,), weaving_count, tree, "???", rows)
            self.refuses(TooMany, (60,), first_weaving, tree, "???", rows)
            self.refuses(TooMany, (60,), weaving_at, tree, "???", rows, 0)
            self.refuses(TooMany, (60,), weaving_at, tree, "???", rows, BIG)
            self.refuses(TooMany, (60,), each_weaving, tree, "???", rows)
        self.exactly(weaving_rank(one, "", [("load", 0)] * 60), 0)
        self.refuses(TooMany, (60,), weaving_rank, one, "", [("load", 0)] * 61)
        self.refuses(TooMany, (60,), weaving_rank, tree, "LLL", [("load", 0)] * 61)
        self.refuses(TooMany, (60,), weaving_rank, tree, "???", [("hit", 0)] * 61, end="RRR")

    def test_arguments_before_too_many(self):
        tree, rows = Tree(TEXT), ["h" * 61, "", "", ""]
        for function, arguments in [(weaving_count, (rows,)), (first_weaving, (rows,)), (weaving_at, (rows, 0)),
                                    (each_weaving, (rows,)), (weaving_rank, ([("hit", 0)] * 61,))]:
            self.refuses(InvalidFlags, ("LL",), function, tree, "LL", *arguments)
            self.refuses(InvalidFlags, ("LL",), function, tree, "LLL", *arguments, end="LL")
        self.refuses(InvalidNumber, (-1,), weaving_at, tree, "LLL", rows, -1)
        self.refuses(InvalidNumber, (True,), weaving_at, tree, "LLL", rows, True, end="x")
        self.refuses(InvalidRow, (1,), weaving_at, tree, "LLL", ["h" * 61, "x", "", ""], -1)
        self.refuses(InvalidLine, (61,), weaving_rank, tree, "LLL", [("hit", 0)] * 61 + [None])

    def test_broken_runs(self):
        chance = random.Random(35)
        found = {"start": 0, "end": 0}
        for text in texts_up_to(5, low=2):
            tree, plain = Tree(text), Plain(text)
            for _ in range(12):
                start, run = random_pattern(chance, plain.forks), random_run(chance, plain.slots, chance.randrange(5))
                end = random_pattern(chance, plain.forks)
                wrong = [index for index in range(len(run)) if not plain.outcomes(start, run[:index + 1])]
                if wrong:
                    found["start"] += 1
                    path = [fork for fork, side in plain.paths[run[wrong[0]][1]]
                            if side == self.side_before(plain, start, run[:wrong[0]], fork)]
                    self.refuses(BrokenRun, (wrong[0], path[0]), weaving_rank, tree, start, run, end=end)
                    self.refuses(BrokenRun, (wrong[0], path[0]), weaving_rank, tree, start, run)
                elif not plain.outcomes(start, run, end):
                    found["end"] += 1
                    behind = [self.side_before(plain, start, run, fork) for fork in range(plain.forks)]
                    fork = [fork for fork in range(plain.forks) if end[fork] != "?" and behind[fork] not in ("?", end[fork])]
                    self.refuses(BrokenRun, (len(run), fork[0]), weaving_rank, tree, start, run, end=end)
                else:
                    weaving_rank(tree, start, run, end=end)
        self.assertGreater(min(found.values()), 20)

    def side_before(self, plain, start, run, fork):
        sides = [dict(plain.paths[slot])[fork] for _, slot in run if fork in dict(plain.paths[slot])]
        return sides[-1] if sides else start[fork]


class ArgumentsTest(Case):
    def test_wrong_arguments(self):
        tree = Tree(TEXT)
        some, rows, end = ("pattern", "LLL"), ("rows", list(ROWS)), ("end", "???")
        for function in (weaving_count, first_weaving, each_weaving):
            check_wrong(self, function, ("any", tree), some, rows, end=end)
        check_wrong(self, weaving_at, ("any", tree), some, rows, ("number", 0), end=end)
        check_wrong(self, weaving_rank, ("any", tree), some, ("run", [("hit", 0)]), end=end)

    def test_rows_stay_and_runs_are_new(self):
        tree, rows = Tree(TEXT), list(ROWS)
        runs = list(each_weaving(tree, "LLL", rows))
        for run in each_weaving(tree, "LLL", rows):
            run.clear()
        first_weaving(tree, "LLL", rows).clear()
        weaving_at(tree, "LLL", rows, 1).clear()
        self.exactly(rows, ROWS)
        self.exactly([first_weaving(tree, "LLL", rows), weaving_at(tree, "LLL", rows, 1)], runs)
        self.exactly(list(each_weaving(tree, "LLL", rows)), runs)
        run = list(runs[1])
        self.exactly(weaving_rank(tree, "LLL", run), 1)
        self.exactly(run, runs[1])

    def test_rows_that_change_while_weavings_are_made(self):
        tree, rows = Tree(TEXT), ["h", "h", "h", ""]
        runs = []
        for run in each_weaving(tree, "LLL", rows):
            runs.append(run)
            rows[0], rows[3] = "", "hh"
        self.assertEqual([[slot for _, slot in run] for run in runs], [list(order) for order in itertools.permutations([0, 1, 2])])

    def test_end_is_passed_by_keyword(self):
        for function in (weaving_count, first_weaving, weaving_rank):
            with self.assertRaises(TypeError):
                function(Tree("."), "", [], None)


if __name__ == "__main__":
    unittest.main()
