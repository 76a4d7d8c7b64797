"""lastside.origins: points 14, 16 and the rows of point 17."""

import random
import unittest

from lastside.errors import BrokenRun
from lastside.origins import loadable, origin_count, origins, rows_of
from lastside.runs import first_wrong
from lastside.trees import Tree
from tests.case import Case
from tests.plain import Plain, large_texts, texts_up_to
from tests.test_runs import random_pattern, random_run, some_runs
from tests.wrong import TEXT, check_wrong


class OriginsTest(Case):
    def test_the_flags_from_which_runs_are_valid(self):
        for plain, _, run in some_runs():
            tree = Tree(plain.text)
            right = [flags for flags in plain.all_flags() if plain.outcome(flags, run) is not None]
            self.exactly(origin_count(tree, run), len(right))
            if right:
                self.assertEqual(plain.fitting(origins(tree, run)), right)
            else:
                index, fork, _ = first_wrong(tree, "?" * plain.forks, run)
                self.refuses(BrokenRun, (index, fork), origins, tree, run)

    def test_valid_runs(self):
        chance = random.Random(21)
        for text in texts_up_to(6):
            tree, plain = Tree(text), Plain(text)
            for _ in range(10):
                start = flags = random_pattern(chance, plain.forks, "LR")
                run = []
                for _ in range(chance.randrange(6)):
                    slot = chance.choice([plain.victim(flags), chance.randrange(plain.slots)])
                    run.append(("load" if slot == plain.victim(flags) else "hit", slot))
                    flags = plain.after(flags, slot)
                right = [flags for flags in plain.all_flags() if plain.outcome(flags, run) is not None]
                self.assertIn(start, right)
                self.assertEqual(plain.fitting(origins(tree, run)), right)
                self.exactly(origin_count(tree, run), len(right))

    def test_edges(self):
        tree = Tree(TEXT)
        self.exactly([origins(tree, []), origin_count(tree, [])], ["???", 8])
        self.exactly([origins(Tree("."), [("load", 0)]), origin_count(Tree("."), [("load", 0)])], ["", 1])
        self.exactly(origins(tree, [("load", 0)]), "RR?")
        self.exactly(origins(tree, [("hit", 3), ("load", 0)]), "R??")
        self.exactly(origin_count(tree, [("load", 0), ("load", 1)]), 0)
        self.refuses(BrokenRun, (1, 1), origins, tree, [("load", 0), ("load", 1)])
        for text in large_texts():
            self.exactly(origin_count(Tree(text), []), 2 ** 63)
            self.exactly(origin_count(Tree(text), [("load", 5)]), 2 ** (63 - Tree(text).depth(5)))


class LoadableTest(Case):
    def test_requests_that_can_be_loads(self):
        chance = random.Random(22)
        for text in texts_up_to(5):
            tree, plain = Tree(text), Plain(text)
            for _ in range(20):
                start = random_pattern(chance, plain.forks)
                slots = [chance.randrange(plain.slots) for _ in range(chance.randrange(8))]
                right = []
                for index, slot in enumerate(slots):
                    hits = [("hit", earlier) for earlier in slots[:index]]
                    if plain.outcomes(start, hits + [("load", slot)]):
                        right.append(index)
                self.exactly(loadable(tree, start, slots), right)
                run = [("load" if index in right else "hit", slot) for index, slot in enumerate(slots)]
                self.assertNotEqual(plain.outcomes(start, run), [])

    def test_edges(self):
        tree = Tree(TEXT)
        self.exactly(loadable(tree, "???", []), [])
        self.exactly(loadable(tree, "???", [0, 0, 3, 0]), [0, 2])
        self.exactly(loadable(tree, "LLL", [0, 3, 1]), [1, 2])
        self.exactly(loadable(Tree("."), "", [0, 0, 0]), [0, 1, 2])
        self.exactly(loadable(Tree.comb(64), "?" * 63, [0, 1] * 500), [0, 1, *range(2, 1000, 2)])
        self.exactly(loadable(Tree.comb(64), "?" * 63, [63, 62] * 500), [0])


class RowsTest(Case):
    def test_rows(self):
        for plain, _, run in some_runs():
            rows = [[kind[0] for kind, other in run if other == slot] for slot in range(plain.slots)]
            self.exactly(rows_of(Tree(plain.text), run), ["".join(row) for row in rows])
        self.exactly(rows_of(Tree(TEXT), [("hit", 0), ("load", 2), ("load", 0)]), ["hl", "", "l", ""])
        self.exactly(rows_of(Tree("."), []), [""])
        run = random_run(random.Random(1), 64, 1000)
        self.exactly(sum(len(row) for row in rows_of(Tree.even(6), run)), 1000)


class ArgumentsTest(Case):
    def test_wrong_arguments(self):
        tree = Tree(TEXT)
        for function in (origins, origin_count, rows_of):
            check_wrong(self, function, ("any", tree), ("run", [("hit", 0)]))
        check_wrong(self, loadable, ("any", tree), ("pattern", "L?L"), ("slots", [0, 0]))

    def test_results_are_new(self):
        tree = Tree(TEXT)
        slots, run = [0, 3], [("hit", 1)]
        loadable(tree, "???", slots).clear()
        rows_of(tree, run).clear()
        self.exactly([slots, run], [[0, 3], [("hit", 1)]])
        self.exactly([loadable(tree, "???", slots), rows_of(tree, run)], [[0, 1], ["", "h", "", ""]])


if __name__ == "__main__":
    unittest.main()
