"""lastside.spread: point 29."""

import random
import unittest

from lastside.spread import greatest_distance, spread_from, spread_to
from lastside.trees import Tree
from tests.case import Case
from tests.plain import Plain, large_texts, texts_up_to
from tests.test_runs import random_pattern
from tests.wrong import TEXT, check_wrong


def distances(plain, flags):
    """The least numbers of hits from flags, or from marks, to all that can be reached, by a search."""
    found = {flags: 0}
    waiting = [flags]
    for state in waiting:
        for slot in range(plain.slots):
            after = plain.after(state, slot)
            if after not in found:
                found[after] = found[state] + 1
                waiting.append(after)
    return found


def counts(numbers):
    """How often each number from 0 to the greatest one occurs."""
    numbers = list(numbers)
    return [numbers.count(number) for number in range(max(numbers) + 1)]


class SpreadTest(Case):
    def test_searches(self):
        for text in texts_up_to(6):
            tree, plain = Tree(text), Plain(text)
            found = {flags: distances(plain, flags) for flags in plain.all_flags()}
            for flags in plain.all_flags():
                self.exactly(spread_from(tree, flags), counts(found[flags].values()))
                self.exactly(spread_to(tree, flags), counts(found[start][flags] for start in found))
            self.exactly(greatest_distance(tree), max(max(row.values()) for row in found.values()))

    def test_small_trees(self):
        self.exactly([spread_to(Tree("."), ""), spread_from(Tree("."), ""), greatest_distance(Tree("."))], [[1], [1], 0])
        self.exactly([spread_to(Tree("(..)"), "L"), spread_from(Tree("(..)"), "R"), greatest_distance(Tree("(..)"))],
                     [[1, 1], [1, 1], 1])
        self.exactly(spread_from(Tree(TEXT), "LRL"), [1, 3, 4])
        self.exactly(greatest_distance(Tree(TEXT)), 2)

    def test_large_trees(self):
        chance = random.Random(101)
        for text in large_texts():
            tree, plain = Tree(text), Plain(text)
            greatest = greatest_distance(tree)
            self.assertEqual(greatest, len({path[-1][0] for path in plain.paths}))
            froms = [spread_from(tree, flags) for flags in ("L" * 63, "R" * 63, random_pattern(chance, 63, "LR"))]
            self.exactly(froms[1:], froms[:1] * 2)
            self.assertEqual((len(froms[0]), sum(froms[0]), froms[0][0]), (greatest + 1, 2 ** 63, 1))
            for _ in range(3):
                to = spread_to(tree, random_pattern(chance, 63, "LR"))
                self.assertEqual((sum(to), to[0]), (2 ** 63, 1))
                self.assertTrue(1 < len(to) <= greatest + 1 and to[-1] > 0 and min(to) >= 0)

    def test_combs(self):
        comb = Tree.comb(64)
        # With all flags R one hit at slot 63 is enough; with all flags L each wrong flag asks for all above it.
        self.exactly(spread_to(comb, "R" * 63), [1, 2 ** 63 - 1])
        self.exactly(spread_to(comb, "L" * 63), [1] + [2 ** number for number in range(63)])
        self.exactly(greatest_distance(comb), 63)

    def test_lists_are_new(self):
        for function in (spread_to, spread_from):
            function(Tree(TEXT), "LLL").clear()
            self.assertEqual(sum(function(Tree(TEXT), "LLL")), 8)

    def test_wrong_arguments(self):
        check_wrong(self, spread_to, ("any", Tree(TEXT)), ("flags", "LLL"))
        check_wrong(self, spread_from, ("any", Tree(TEXT)), ("flags", "LLL"))


if __name__ == "__main__":
    unittest.main()
