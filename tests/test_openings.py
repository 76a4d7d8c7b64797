"""lastside.openings: point 20."""

import itertools
import random
import unittest

from lastside.errors import InvalidFlags, InvalidRow, TooMany
from lastside.openings import is_openings, openings, told_end, told_start
from lastside.trees import Tree
from lastside.weaving import weaving_count
from tests.case import Case, alike
from tests.plain import STRANGE, Plain, large_texts, orders, size, texts_up_to, written
from tests.test_weaving import random_rows, small_cases, woven_rows
from tests.wrong import TEXT, check_wrong, variations


def forks_of(shape, first=0):
    """The forks of nested pairs in postorder, each with its nested pairs and its first slot."""
    if shape is None:
        return []
    root = first + size(shape[0]) - 1
    return forks_of(shape[0], first) + forks_of(shape[1], root + 1) + [(root, shape, first)]


def plain_openings(plain, start, rows, end):
    """The opening table, by trying all orders of the rows below each fork."""
    table = []
    for fork, shape, first in forks_of(plain.shape):
        part, last = Plain(written(shape)), first + size(shape)
        inner_end = None if end is None else end[first:last - 1]
        runs = [run for run in orders(rows[first:last]) if part.outcomes(start[first:last - 1], run, inner_end)]
        letters = {run[0][0][0] if run else "-" for run in runs}
        table.append((fork, "".join(letter for letter in "hl-" if letter in letters)))
        if not letters:
            break
    return table


def merged(texts):
    """What texts of the same length tell: their character where all agree, otherwise `?`."""
    return "".join(marks[0] if len(set(marks)) == 1 else "?" for marks in zip(*texts))


class OpeningsTest(Case):
    def test_all_orders_tried(self):
        words = set()
        for plain, start, rows, end, right in small_cases():
            tree = Tree(plain.text)
            table = plain_openings(plain, start, rows, end)
            self.exactly(openings(tree, start, rows, end=end), table)
            self.assertEqual(all(word for _, word in table), right != [])
            self.exactly(is_openings(tree, start, rows, table, end=end), True)
            words |= {word for _, word in table}
        self.assertEqual(words, {"h", "l", "hl", "-", ""})

    def test_the_example(self):
        tree = Tree(TEXT)
        self.exactly(openings(tree, "RLR", ["l", "l", "", ""]), [(0, "l"), (2, "-"), (1, "")])
        self.exactly(openings(tree, "RRR", ["l", "l", "", ""]), [(0, "l"), (2, "-"), (1, "")])
        self.exactly(openings(tree, "LLL", ["hl", "l", "h", "l"]), [(0, "h"), (2, "hl"), (1, "h")])

    def test_no_line(self):
        tree, rows = Tree(TEXT), [""] * 4
        self.exactly(openings(tree, "LLL", rows), [(0, "-"), (2, "-"), (1, "-")])
        self.exactly(openings(tree, "L?L", rows, end="?RL"), [(0, "-"), (2, "-"), (1, "-")])
        self.exactly(openings(tree, "LLL", rows, end="LLR"), [(0, "-"), (2, "")])
        self.exactly(openings(tree, "LLL", rows, end="RLR"), [(0, "")])
        self.exactly(openings(tree, "LLL", rows, end="LRL"), [(0, "-"), (2, "-"), (1, "")])
        self.exactly(openings(tree, "LLL", ["", "", "h", ""], end="RRL"), [(0, "")])

    def test_without_forks(self):
        for row in ("", "h", "l", "lh"):
            self.exactly(openings(Tree("."), "", [row]), [])
            self.exactly(openings(Tree("."), "", [row], end=""), [])
            self.exactly(is_openings(Tree("."), "", [row], []), True)
            self.exactly(is_openings(Tree("."), "", [row], ()), False)

    def test_large_trees(self):
        chance = random.Random(41)
        for text in large_texts():
            tree, plain = Tree(text), Plain(text)
            start, rows, _, end = woven_rows(chance, plain, 60)
            for last in (None, end):
                table = openings(tree, start, rows, end=last)
                self.assertEqual([fork for fork, _ in table], list(tree.walk(last=True)))
                self.assertTrue(all(word in ("h", "l", "hl", "-") for _, word in table))
                self.exactly(is_openings(tree, start, rows, table, end=last), True)
            rows = random_rows(chance, 64, 60)
            table = openings(tree, start, rows, end=end)
            self.assertEqual(table[-1][1] != "", weaving_count(tree, start, rows, end=end) > 0)

    def test_tables_with_one_thing_changed(self):
        tree = Tree(TEXT)
        for start, rows, end in [("RLR", ["l", "l", "", ""], None), ("LLL", ["hl", "l", "h", "l"], "???"),
                                 ("???", ["h", "", "", ""], "???"), ("LLL", [""] * 4, "RRR")]:
            table = openings(tree, start, rows, end=end)
            self.exactly(is_openings(tree, start, rows, table, end=end), True)
            self.exactly(is_openings(tree, start, rows, [tuple(row) for row in table], end=end), True)
            for other in variations(table) + STRANGE + [openings(tree, "???", ["l"] * 4)]:
                self.assertIs(is_openings(tree, start, rows, other, end=end), alike(other, table), other)

    def test_deep_values(self):
        deep = []
        for _ in range(900):
            deep = [deep]
        for value in (deep, [(0, deep)], [deep, deep, deep], [(deep, "l"), (2, "-"), (1, "")]):
            self.assertIs(is_openings(Tree(TEXT), "RLR", ["l", "l", "", ""], value), False)


class ToldTest(Case):
    def test_all_orders_tried(self):
        found = set()
        for plain, start, rows, _, _ in small_cases():
            tree = Tree(plain.text)
            runs = orders(rows)
            begins = {flags for run in runs for flags, _ in plain.outcomes("?" * plain.forks, run)}
            ends = {behind for run in runs for _, behind in plain.outcomes(start, run)}
            self.exactly(told_start(tree, rows), merged(sorted(begins)) if begins else None)
            self.exactly(told_end(tree, start, rows), merged(sorted(ends)) if ends else None)
            found |= set(told_start(tree, rows) or "0") | set(told_end(tree, start, rows) or "0")
        self.assertEqual(found, set("LR?0"))

    def test_all_rows_of_a_small_tree(self):
        tree, plain = Tree("((..).)"), Plain("((..).)")
        for rows in itertools.product(["", "h", "l", "lh", "ll"], repeat=3):
            runs = orders(rows)
            begins = {flags for run in runs for flags, _ in plain.outcomes("??", run)}
            self.exactly(told_start(tree, list(rows)), merged(sorted(begins)) if begins else None)
            for start in ("LR", "?L"):
                ends = {behind for run in runs for _, behind in plain.outcomes(start, run)}
                self.exactly(told_end(tree, start, list(rows)), merged(sorted(ends)) if ends else None)

    def test_edges(self):
        tree = Tree(TEXT)
        self.exactly(told_start(tree, [""] * 4), "???")
        self.exactly(told_end(tree, "L?R", [""] * 4), "L?R")
        self.exactly(told_start(tree, ["ll", "", "", ""]), None)
        self.exactly(told_end(tree, "???", ["ll", "", "", ""]), None)
        self.exactly(told_end(tree, "LLL", ["l", "", "", ""]), None)
        self.exactly([told_start(Tree("."), ["lhl"]), told_end(Tree("."), "", ["lhl"])], ["", ""])

    def test_large_trees(self):
        chance = random.Random(42)
        for text in large_texts():
            tree, plain = Tree(text), Plain(text)
            start, rows, _, end = woven_rows(chance, plain, 60)
            for told, flags in [(told_start(tree, rows), start), (told_end(tree, start, rows), end)]:
                self.assertTrue(all(mark in ("?", flag) for mark, flag in zip(told, flags)))
            # With one line for the slot, its path is told.
            run = [""] * 64
            run[20] = "l"
            path = dict(plain.paths[20])
            self.exactly(told_start(tree, run), "".join({"L": "R", "R": "L"}.get(path.get(fork), "?") for fork in range(63)))
            self.exactly(told_end(tree, "?" * 63, run), "".join(path.get(fork, "?") for fork in range(63)))


class ArgumentsTest(Case):
    def test_wrong_arguments(self):
        tree = Tree(TEXT)
        some, rows, end = ("pattern", "LLL"), ("rows", ["h", "l", "", ""]), ("end", "???")
        check_wrong(self, openings, ("any", tree), some, rows, end=end)
        check_wrong(self, is_openings, ("any", tree), some, rows, ("any", None), end=end)
        check_wrong(self, told_start, ("any", tree), rows)
        check_wrong(self, told_end, ("any", tree), some, rows)

    def test_too_many_letters(self):
        tree, rows = Tree(TEXT), ["h" * 61, "", "", ""]
        self.refuses(TooMany, (60,), openings, tree, "???", rows)
        self.refuses(TooMany, (60,), is_openings, tree, "???", rows, [])
        self.refuses(TooMany, (60,), is_openings, tree, "???", rows, None)
        self.refuses(TooMany, (60,), told_start, tree, rows)
        self.refuses(TooMany, (60,), told_end, tree, "???", rows)
        self.refuses(InvalidFlags, ("L",), openings, tree, "???", rows, end="L")
        self.refuses(InvalidFlags, ("L",), told_end, tree, "L", rows)
        self.refuses(InvalidRow, (3,), told_start, tree, ["h" * 61, "", "", "x"])
        for rows in (["h" * 60, "", "", ""], ["h" * 15] * 4):
            self.assertEqual(len(openings(tree, "???", rows)), 3)
            self.assertIsNotNone(told_start(tree, rows))

    def test_arguments_stay_and_tables_are_new(self):
        tree, rows = Tree(TEXT), ["l", "l", "", ""]
        table = openings(tree, "RLR", rows)
        self.assertTrue(is_openings(tree, "RLR", rows, table))
        self.exactly([table, rows], [[(0, "l"), (2, "-"), (1, "")], ["l", "l", "", ""]])
        table.clear()
        self.exactly(openings(tree, "RLR", rows), [(0, "l"), (2, "-"), (1, "")])


if __name__ == "__main__":
    unittest.main()
