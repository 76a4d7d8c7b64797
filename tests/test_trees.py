"""lastside.trees: points 5, 6 and 7."""

import random
import unittest

from lastside.errors import InvalidFork, InvalidNumber, InvalidSide, InvalidSlot, InvalidTree, TooMany
from lastside.trees import Tree, joined, shapes
from tests.case import Case, other_than
from tests.plain import STRANGE, Plain, all_shapes, large_texts, nested, size, texts_up_to, written

SMALL = texts_up_to(7)
LARGE = large_texts()


def is_number(value):
    return isinstance(value, int) and not isinstance(value, bool)


def fork_shape(shape, fork, first=0):
    """The nested pairs below a fork."""
    root = first + size(shape[0]) - 1
    if fork == root:
        return shape
    return fork_shape(shape[0], fork, first) if fork < root else fork_shape(shape[1], fork, root + 1)


def changed(shape, change, first=0):
    """The nested pairs with each node replaced by change(node, first slot, last slot), where that is not "as it is"."""
    new = change(shape, first, first + size(shape) - 1)
    if new != "as it is":
        return new
    if shape is None:
        return None
    return (changed(shape[0], change, first), changed(shape[1], change, first + size(shape[0])))


def postorder(shape, first=0):
    if shape is None:
        return []
    root = first + size(shape[0]) - 1
    return postorder(shape[0], first) + postorder(shape[1], root + 1) + [root]


def preorder(shape, first=0):
    if shape is None:
        return []
    root = first + size(shape[0]) - 1
    return [root] + preorder(shape[0], first) + preorder(shape[1], root + 1)


def lowest_fork(tree, first, last):
    """The lowest fork that has both slots below it."""
    both = [fork for fork, _ in tree.path(first) if fork in [step[0] for step in tree.path(last)]]
    return both[-1]


class TextTest(Case):
    def test_texts_of_trees(self):
        for text in SMALL + LARGE:
            tree = Tree(text)
            self.exactly(tree.text, text)
            self.exactly(str(tree), text)
            self.exactly(len(tree), text.count("."))
            self.exactly(tree.forks, text.count("("))

    def test_one_slot(self):
        tree = Tree(".")
        self.exactly((len(tree), tree.forks, tree.height, tree.least_depth, tree.is_even), (1, 0, 0, 0, True))
        self.exactly(tree.top, ("slot", 0))
        self.exactly(tree.path(0), [])
        self.exactly(tree.depth(0), 0)
        self.assertEqual(list(tree.walk()) + list(tree.walk(last=True)), [])
        self.refuses(InvalidFork, (0,), tree.sides, 0)
        self.refuses(InvalidFork, (-1,), tree.span, -1)
        self.refuses(InvalidSlot, (1,), tree.path, 1)
        self.refuses(InvalidSlot, (-1,), tree.depth, -1)

    def test_the_most_slots(self):
        self.exactly(Tree.MOST, 64)
        for text in LARGE:
            self.assertEqual(len(Tree(text)), 64)
            for more in ("(." + text + ")", "(" + text + ".)", "(" + text + text + ")"):
                self.refuses(InvalidTree, (more,), Tree, more)
        long = "(" * 100000 + "." * 100000 + ")" * 99999
        self.refuses(InvalidTree, (long,), Tree, long)

    def test_other_values(self):
        for value in STRANGE + [["."], (".",), 1, b"."]:
            self.refuses(InvalidTree, (value,), Tree, value)

    def test_other_texts(self):
        texts = ["..", "(.)", "()", "(...)", "(..", "..)", "(..))", "((..)", ")..(", "(. .)", " .", ". ", ".\n", "(..).",
                 ".(..)", "(..)(..)", "(", ")", "(..)" + "x", "{..}", "[..]", "(,.)", "(..)\n", "((..)(..)", "(()..)",
                 "(.().)", "((.)(.))", ")(..)(", "(oo)", "(.\u2024)", "(.L)"]
        for text in texts:
            self.refuses(InvalidTree, (text,), Tree, text)

    def test_one_changed_character(self):
        known = set(SMALL)
        for text in texts_up_to(5):
            for at in range(len(text)):
                for mark in ["", "(", ")", ".", "x", ".."]:
                    other = text[:at] + mark + text[at + 1:]
                    if other in known:
                        self.assertEqual(Tree(other).text, other)
                    else:
                        self.refuses(InvalidTree, (other,), Tree, other)

    def test_equality(self):
        self.assertTrue(Tree("(..)") == Tree("(..)"))
        self.assertFalse(Tree("(..)") == Tree("((..).)"))
        self.assertFalse(Tree("((..).)") == Tree("(.(..))"))
        self.assertTrue(Tree("((..).)") != Tree("(.(..))"))
        for value in STRANGE + ["(..)"]:
            self.assertIs(Tree("(..)") == value, False)
            self.assertIs(Tree("(..)") != value, True)


class NodesTest(Case):
    def test_numbers_paths_and_spans(self):
        for text in SMALL + LARGE:
            tree, plain = Tree(text), Plain(text)
            for slot in range(plain.slots):
                self.exactly(tree.path(slot), plain.paths[slot])
                self.exactly(tree.depth(slot), len(plain.paths[slot]))
            for fork in range(plain.forks):
                below = plain.below(fork)
                self.exactly(tree.span(fork), (below[0], below[-1]))
                self.assertEqual(below, list(range(below[0], below[-1] + 1)))
                self.assertEqual(lowest_fork(tree, fork, fork + 1), fork)
                self.assertIn((fork, "L"), tree.path(fork))
                self.assertIn((fork, "R"), tree.path(fork + 1))

    def test_sides_and_top(self):
        for text in SMALL + LARGE:
            tree, shape = Tree(text), nested(text)
            root = size(shape[0]) - 1 if shape else None
            self.exactly(tree.top, ("slot", 0) if shape is None else ("fork", root))
            for fork in range(tree.forks):
                first, last = tree.span(fork)
                left, right = fork_shape(shape, fork)
                left = ("slot", fork) if left is None else ("fork", first + size(left[0]) - 1)
                right = ("slot", fork + 1) if right is None else ("fork", fork + size(right[0]))
                self.exactly(tree.sides(fork), (left, right))

    def test_heights(self):
        for text in SMALL + LARGE:
            tree = Tree(text)
            depths = [len(path) for path in Plain(text).paths]
            self.exactly((tree.height, tree.least_depth), (max(depths), min(depths)))
            self.exactly(tree.is_even, len(set(depths)) == 1)

    def test_walks(self):
        for text in SMALL + LARGE:
            tree, shape = Tree(text), nested(text)
            self.exactly(list(tree.walk()), preorder(shape))
            self.exactly(list(tree.walk(last=False)), preorder(shape))
            self.exactly(list(tree.walk(last=True)), postorder(shape))

    def test_walk_takes_last_by_keyword(self):
        with self.assertRaises(TypeError):
            Tree("(..)").walk(True)

    def test_lists_are_new(self):
        tree = Tree("((..)(..))")
        tree.path(2).clear()
        self.exactly(tree.path(2), [(1, "R"), (2, "L")])

    def test_wrong_slots_and_forks(self):
        for text in [".", "(..)", "((..)(..))", LARGE[0]]:
            tree = Tree(text)
            most = len(tree)
            for value in other_than(is_number, STRANGE) + [-1, most, most + 1, 10 ** 59, -(10 ** 59)]:
                for method in (tree.path, tree.depth, tree.grown, tree.closed):
                    self.refuses(InvalidSlot, (value,), method, value)
            for value in other_than(is_number, STRANGE) + [-1, most - 1, most, 10 ** 59, -(10 ** 59)]:
                for method in (tree.sides, tree.span, tree.subtree, tree.collapsed):
                    self.refuses(InvalidFork, (value,), method, value)


class ChangesTest(Case):
    def test_joining(self):
        for first in texts_up_to(4):
            for second in texts_up_to(4):
                self.exactly((Tree(first) + Tree(second)).text, "(" + first + second + ")")
        self.assertEqual(len(Tree.comb(63) + Tree(".")), 64)
        for first, second in [(64, 1), (1, 64), (32, 33), (64, 64)]:
            self.refuses(TooMany, (64,), Tree.comb(first).__add__, Tree.comb(second))
            with self.assertRaises(TooMany):
                Tree.comb(first) + Tree.comb(second)

    def test_joining_something_else(self):
        for value in STRANGE:
            with self.assertRaises(TypeError):
                Tree("(..)") + value

    def test_joining_leaves_both_as_they_were(self):
        first, second = Tree("(..)"), Tree("(.(..))")
        first + second
        self.assertEqual([first.text, second.text], ["(..)", "(.(..))"])

    def test_mirroring(self):
        def mirror(shape):
            return None if shape is None else (mirror(shape[1]), mirror(shape[0]))
        for text in SMALL + LARGE:
            tree = Tree(text)
            mirrored = tree.mirrored()
            self.exactly(mirrored.text, written(mirror(nested(text))))
            self.assertEqual(mirrored.mirrored().text, text)
            most = len(tree)
            for slot in range(most):
                path = [(most - 2 - fork, "LR"[side == "L"]) for fork, side in tree.path(slot)]
                self.assertEqual(mirrored.path(most - 1 - slot), path)

    def test_growing(self):
        for text in texts_up_to(6):
            for slot in range(text.count(".")):
                def grow(shape, first, last):
                    return (None, None) if shape is None and first == slot else "as it is"
                grown = Tree(text).grown(slot)
                self.exactly(grown.text, written(changed(nested(text), grow)))
                self.assertEqual(grown.path(slot)[-1], (slot, "L"))
                self.assertEqual(grown.path(slot + 1)[-1], (slot, "R"))
        self.assertEqual(len(Tree.comb(63).grown(62)), 64)
        self.assertEqual(Tree.comb(63).grown(62).text, Tree.comb(64).text)

    def test_growing_the_largest_tree(self):
        for text in LARGE:
            for slot in (0, 31, 63):
                self.refuses(TooMany, (64,), Tree(text).grown, slot)
            for slot in (-1, 64, True, None):
                self.refuses(InvalidSlot, (slot,), Tree(text).grown, slot)

    def test_closing(self):
        for text in SMALL[1:]:
            tree = Tree(text)
            for slot in range(len(tree)):
                def close(shape, first, last):
                    if shape is not None and shape[0] is None and first == slot:
                        return shape[1]
                    if shape is not None and shape[1] is None and last == slot:
                        return shape[0]
                    return "as it is"
                closed = tree.closed(slot)
                self.exactly(closed.text, written(changed(nested(text), close)))
                removed = max([fork for fork in (slot - 1, slot) if 0 <= fork < tree.forks],
                              key=lambda fork: [step[0] for step in tree.path(slot)].index(fork))
                self.assertEqual(tree.path(slot)[-1][0], removed)
                for other in range(len(tree)):
                    if other != slot:
                        path = [(fork - (fork > removed), side) for fork, side in tree.path(other) if fork != removed]
                        self.assertEqual(closed.path(other - (other > slot)), path)

    def test_closing_undoes_growing(self):
        for text in texts_up_to(6) + [Tree(LARGE[4]).closed(0).text]:
            tree = Tree(text)
            for slot in range(len(tree)):
                self.assertEqual(tree.grown(slot).closed(slot), tree)
                self.assertEqual(tree.grown(slot).closed(slot + 1), tree)

    def test_closing_the_only_slot(self):
        for slot in (0, 1, -1, None, True):
            self.refuses(InvalidSlot, (slot,), Tree(".").closed, slot)
        self.assertEqual(Tree("(..)").closed(0).text, ".")
        self.assertEqual(Tree("(..)").closed(1).text, ".")

    def test_collapsing_and_subtrees(self):
        for text in SMALL[1:] + LARGE:
            tree = Tree(text)
            for fork in range(tree.forks):
                span = tree.span(fork)

                def collapse(shape, first, last):
                    return None if (first, last) == span else "as it is"
                self.exactly(tree.collapsed(fork).text, written(changed(nested(text), collapse)))
                self.exactly(tree.subtree(fork).text, written(fork_shape(nested(text), fork)))


class MakersTest(Case):
    def test_even(self):
        text = "."
        for height in range(7):
            tree = Tree.even(height)
            self.exactly(tree.text, text)
            self.exactly((tree.height, tree.is_even, len(tree)), (height, True, 2 ** height))
            text = "(" + text + text + ")"
        for value in other_than(is_number, STRANGE) + [-1, 7, 64, 10 ** 59]:
            self.refuses(InvalidNumber, (value,), Tree.even, value)

    def test_comb(self):
        right, left = ".", "."
        for slots in range(1, 65):
            self.exactly(Tree.comb(slots).text, right)
            self.exactly(Tree.comb(slots, side="R").text, right)
            self.exactly(Tree.comb(slots, side="L").text, left)
            right, left = "(." + right + ")", "(" + left + ".)"

    def test_wrong_combs(self):
        for value in other_than(is_number, STRANGE) + [0, -1, 65, 10 ** 59]:
            self.refuses(InvalidNumber, (value,), Tree.comb, value)
            self.refuses(InvalidNumber, (value,), Tree.comb, value, side="X")
        for value in STRANGE + ["l", "r", "LR", ["L"], "?"]:
            self.refuses(InvalidSide, (value,), Tree.comb, 3, side=value)

    def test_joined(self):
        one, two, three = Tree("."), Tree("(..)"), Tree("((..).)")
        self.exactly(joined(one, two, three).text, "((.(..))((..).))")
        self.exactly(joined(one, two, three, side="L").text, "((.(..))((..).))")
        self.exactly(joined(one, two, three, side="R").text, "(.((..)((..).)))")
        self.exactly(joined(one, two, side="L").text, "(.(..))")
        self.exactly(joined(one, two, side="R").text, "(.(..))")
        self.exactly(joined(two, one, three, two, side="L").text, "((((..).)((..).))(..))")
        self.exactly(joined(two, one, three, two, side="R").text, "((..)(.(((..).)(..))))")
        for side in "LR":
            self.assertEqual(joined(three, side=side), three)
            self.assertEqual(joined(*[one] * 64, side=side), Tree.comb(64, side=side))
            self.assertEqual(joined(Tree.comb(64), side=side), Tree.comb(64))

    def test_wrong_joins(self):
        one, large = Tree("."), Tree.comb(64)
        self.refuses(InvalidNumber, (0,), joined)
        self.refuses(InvalidNumber, (0,), joined, side="X")
        for value in STRANGE + ["l", "LR"]:
            self.refuses(InvalidSide, (value,), joined, one, side=value)
            self.refuses(InvalidSide, (value,), joined, one, large, side=value)
        for side in "LR":
            self.refuses(TooMany, (64,), joined, one, large, side=side)
            self.refuses(TooMany, (64,), joined, *[one] * 65, side=side)

    def test_shapes(self):
        for slots in range(1, 8):
            trees = list(shapes(slots))
            self.assertTrue(all(isinstance(tree, Tree) for tree in trees))
            self.assertEqual([tree.text for tree in trees], [written(shape) for shape in all_shapes(slots)])
        self.assertEqual([tree.text for tree in shapes(3)], ["(.(..))", "((..).)"])
        self.assertEqual(len(list(shapes(7))), 132)

    def test_wrong_shapes(self):
        for value in other_than(is_number, STRANGE) + [0, -1, 8, 10 ** 59]:
            self.refuses(InvalidNumber, (value,), shapes, value)

    def test_random_large_trees(self):
        chance = random.Random(5)
        for _ in range(20):
            tree = Tree(".")
            while len(tree) < 64:
                tree = tree.grown(chance.randrange(len(tree)))
            plain = Plain(tree.text)
            self.assertEqual([tree.path(slot) for slot in range(64)], plain.paths)
            while len(tree) > 1:
                slot = chance.randrange(len(tree))
                fork = tree.path(slot)[-1][0]
                self.assertIn(fork, (slot - 1, slot))
                tree = tree.closed(slot)
                Plain(tree.text)


if __name__ == "__main__":
    unittest.main()
