"""lastside.marks: point 30."""

import itertools
import random
import unittest

from lastside.errors import InvalidFlags
from lastside.marks import is_sound, least_marking, mark_count, marks_after
from lastside.trails import least_hits
from lastside.trees import Tree
from tests.case import Case
from tests.plain import STRANGE, Plain, large_texts, texts_up_to
from tests.test_runs import random_pattern
from tests.test_spread import distances
from tests.wrong import TEXT, WRONG, check_wrong


def random_marks(chance, plain, hits, marks=None):
    """Marks behind some hits."""
    marks = "." * plain.forks if marks is None else marks
    for _ in range(hits):
        marks = plain.after(marks, chance.randrange(plain.slots))
    return marks


class SmallTest(Case):
    def test_sound_marks_are_those_that_hits_reach(self):
        for text in texts_up_to(6):
            tree, plain = Tree(text), Plain(text)
            sound = distances(plain, "." * plain.forks)
            for letters in itertools.product("LR.", repeat=plain.forks):
                marks = "".join(letters)
                self.exactly(is_sound(tree, marks), marks in sound)
                if marks not in sound:
                    self.refuses(InvalidFlags, (marks,), marks_after, tree, marks, 0)
            self.exactly(mark_count(tree), len(sound))

    def test_searches(self):
        for text in texts_up_to(5):
            tree, plain = Tree(text), Plain(text)
            sound = sorted(distances(plain, "." * plain.forks))
            for start in sound:
                found = distances(plain, start)
                for end in sound:
                    least = least_marking(tree, start, end)
                    self.exactly(least, found.get(end))
                    reached = all(before == "." for before, mark in zip(start, end) if mark == ".")
                    self.assertIs(least is not None, reached)
                for slot in range(plain.slots):
                    self.exactly(marks_after(tree, start, slot), plain.after(start, slot))

    def test_edges(self):
        one, tree = Tree("."), Tree(TEXT)
        self.exactly([is_sound(one, ""), mark_count(one), marks_after(one, "", 0), least_marking(one, "", "")], [True, 1, "", 0])
        self.exactly([mark_count(Tree("(..)")), mark_count(tree)], [3, 13])
        self.exactly([least_marking(tree, "...", "..."), least_marking(tree, "...", "LL."), least_marking(tree, "...", "LLR"),
                      least_marking(tree, "LL.", "LL."), least_marking(tree, "LL.", "..."), least_marking(tree, "LLR", "LL.")],
                     [0, 1, 2, 0, None, None])
        self.exactly(marks_after(tree, "...", 2), ".RL")


class LargeTest(Case):
    def test_marks_of_large_trees(self):
        chance = random.Random(111)
        for text in large_texts():
            tree, plain = Tree(text), Plain(text)
            for hits in (0, 1, 5, 40):
                start = random_marks(chance, plain, hits)
                self.exactly(is_sound(tree, start), True)
                self.exactly(least_marking(tree, start, start), 0)
                end = random_marks(chance, plain, 3, start)
                self.assertTrue(0 <= least_marking(tree, start, end) <= 3)
                slot = chance.randrange(64)
                self.exactly(marks_after(tree, start, slot), plain.after(start, slot))
                if end.count(".") < 63:
                    self.exactly(least_marking(tree, end, "." * 63), None)
                    fork = [fork for fork in range(63) if end[fork] != "."][-1]
                    below = end[:fork] + "." + end[fork + 1:]
                    self.exactly(is_sound(tree, below), self.sound(plain, below))

    def sound(self, plain, marks):
        """Sound, by the words of point 30, over the paths of the slots."""
        for path in plain.paths:
            shown = [marks[fork] for fork, _ in path]
            if "." in shown and any(mark != "." for mark in shown[shown.index("."):]):
                return False
        for fork in range(plain.forks):
            if marks[fork] != ".":
                sides = [path[path.index((fork, marks[fork])) + 1:] for path in plain.paths if (fork, marks[fork]) in path]
                if any(path and marks[path[0][0]] == "." for path in sides):
                    return False
        return True

    def test_flags_are_marks(self):
        chance = random.Random(112)
        for text in large_texts():
            tree = Tree(text)
            for _ in range(3):
                start, end = random_pattern(chance, 63, "LR"), random_pattern(chance, 63, "LR")
                self.exactly(is_sound(tree, start), True)
                self.exactly(least_marking(tree, start, end), least_hits(tree, start, end))
                self.exactly(least_marking(tree, "." * 63, end), least_hits(tree, "?" * 63, end))

    def test_numbers(self):
        # At a fork of a comb the flag shows the slot, and the other side may be without a flag, or that other side.
        for slots in range(1, 65):
            flagged = 1
            for number in range(2, slots + 1):
                flagged = (flagged if number == 2 else flagged + 1) + flagged
            self.exactly(mark_count(Tree.comb(slots)), flagged + (1 if slots > 1 else 0))
            self.exactly(mark_count(Tree.comb(slots, side="L")), mark_count(Tree.comb(slots)))
        flagged = 2
        for height in range(2, 7):
            flagged = 2 * flagged * (flagged + 1)
            self.exactly(mark_count(Tree.even(height)), flagged + 1)


class ArgumentsTest(Case):
    def test_any_value(self):
        tree = Tree(TEXT)
        for value in STRANGE + [row[0] for row in WRONG["marks"]]:
            self.exactly(is_sound(tree, value), False)
        for value in ("...", "LL.", ".RL", "RLR", "LLL"):
            self.exactly(is_sound(tree, value), True)
        for value in (None, 0, False, [], (), ".", " "):
            self.exactly(is_sound(Tree("."), value), False)

    def test_wrong_arguments(self):
        tree = Tree(TEXT)
        check_wrong(self, marks_after, ("any", tree), ("marks", "LL."), ("slot", 0))
        check_wrong(self, least_marking, ("any", tree), ("marks", "LL."), ("marks", "LLR"))


if __name__ == "__main__":
    unittest.main()
