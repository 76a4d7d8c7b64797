"""lastside.hidden: point 52."""

import itertools
import random
import unittest

from lastside.errors import InvalidItem, InvalidLine, InvalidNumber
from lastside.hidden import arranged, each_groups, fitting, next_victims, rank_counts, sure_groups, tree_total
from lastside.runs import first_wrong
from lastside.trees import Tree
from tests.case import Case, alike
from tests.plain import STRANGE, Plain
from tests.test_runs import random_run
from tests.wrong import WRONG, check_wrong, variations


def plain_trees(labels):
    """All trees with these labels as nested tuples; one label is a tree, and the first side has the smallest label."""
    if len(labels) == 1:
        return [labels[0]]
    found = []
    rest = labels[1:]
    for many in range(len(rest)):
        for chosen in itertools.combinations(rest, many):
            left = [labels[0]] + list(chosen)
            right = [label for label in rest if label not in chosen]
            found += list(itertools.product(plain_trees(left), plain_trees(right)))
    return found


def leaves(shape):
    """The labels of nested tuples from left to right."""
    return leaves(shape[0]) + leaves(shape[1]) if isinstance(shape, tuple) else [shape]


def groups_of(shape):
    """The sorted list of the groups of nested tuples."""
    if not isinstance(shape, tuple):
        return []
    return sorted(groups_of(shape[0]) + groups_of(shape[1]) + [tuple(sorted(leaves(shape)))])


def text_of(shape):
    """The text of nested tuples."""
    return "(" + text_of(shape[0]) + text_of(shape[1]) + ")" if isinstance(shape, tuple) else "."


def placed(shape, run):
    """The run in the slots of a tree that has the labels in its slots from left to right."""
    return [(kind, leaves(shape).index(slot)) for kind, slot in run]


def plain_victims(shape, run):
    """The slots that are the victim behind the run for some flags from which it is valid, by trying all flags."""
    plain = Plain(text_of(shape))
    behind = [plain.outcome(flags, placed(shape, run)) for flags in plain.all_flags()]
    return sorted({leaves(shape)[plain.victim(flags)] for flags in behind if flags is not None})


def valid_run(chance, shape, many):
    """A run that is valid in the tree."""
    plain = Plain(text_of(shape))
    flags = chance.choice(plain.all_flags())
    run = []
    for _ in range(many):
        kind = chance.choice(["hit", "load", "load"])
        slot = plain.victim(flags) if kind == "load" else chance.randrange(plain.slots)
        run.append((kind, leaves(shape)[slot]))
        flags = plain.after(flags, slot)
    return run


class TreesTest(Case):
    def test_all_trees(self):
        for slots in range(1, 7):
            right = sorted(groups_of(shape) for shape in plain_trees(list(range(slots))))
            self.exactly(list(each_groups(slots)), right)
            self.exactly(tree_total(slots), len(right))

    def test_totals(self):
        self.exactly([tree_total(slots) for slots in range(1, 8)], [1, 1, 3, 15, 105, 945, 10395])
        for slots in range(2, 61):
            self.exactly(tree_total(slots), tree_total(slots - 1) * (2 * slots - 3))

    def test_written_out(self):
        self.exactly(list(each_groups(1)), [[]])
        self.exactly(list(each_groups(2)), [[(0, 1)]])
        self.exactly(list(each_groups(3)), [[(0, 1), (0, 1, 2)], [(0, 1, 2), (0, 2)], [(0, 1, 2), (1, 2)]])


class FittingTest(Case):
    def check(self, slots, run):
        shapes = plain_trees(list(range(slots)))
        victims = {str(groups_of(shape)): plain_victims(shape, run) for shape in shapes}
        right = sorted(groups_of(shape) for shape in shapes if victims[str(groups_of(shape))])
        self.exactly(fitting(slots, run), right)
        sure = sorted(set.intersection(*[set(groups) for groups in right])) if right else None
        self.exactly(sure_groups(slots, run), sure)
        self.exactly(next_victims(slots, run), sorted(set().union(*victims.values())))
        return len(right)

    def test_all_short_runs(self):
        for slots in (1, 2, 3):
            lines = [(kind, slot) for kind in ("hit", "load") for slot in range(slots)]
            for many in range(4):
                for run in itertools.product(lines, repeat=many):
                    self.check(slots, list(run))

    def test_random_runs(self):
        chance = random.Random(241)
        found = []
        for number in range(90):
            slots = chance.choice([4, 4, 4, 5])
            shape = chance.choice(plain_trees(list(range(slots))))
            run = valid_run(chance, shape, chance.randrange(1, 12)) if number % 4 else random_run(chance, slots, 4)
            found.append(self.check(slots, run))
            if number % 4:
                self.assertGreater(found[-1], 0)
        self.assertGreater(len(set(found)), 8)
        self.assertIn(0, found)
        self.assertIn(1, found)

    def test_six_slots(self):
        chance = random.Random(242)
        shapes = plain_trees(list(range(6)))
        for _ in range(3):
            self.check(6, valid_run(chance, chance.choice(shapes), 8))
        for shape in chance.sample(shapes, 5):
            run = valid_run(chance, shape, 200)
            trees = fitting(6, run)
            self.assertIn(groups_of(shape), trees)
            # The trees that are arranged and followed as all other trees are.
            fit = []
            for groups in each_groups(6):
                tree, slots = arranged(groups, list(range(6)))
                if first_wrong(tree, "?" * 5, [(kind, slots.index(slot)) for kind, slot in run]) is None:
                    fit.append(groups)
            self.exactly(trees, fit)

    def test_edges(self):
        self.exactly([fitting(1, []), sure_groups(1, []), next_victims(1, [])], [[[]], [], [0]])
        self.exactly([fitting(1, [("load", 0)] * 3), next_victims(1, [("load", 0), ("hit", 0)])], [[[]], [0]])
        self.exactly([fitting(2, [("load", 0), ("load", 0)]), sure_groups(2, [("load", 0), ("load", 0)]),
                      next_victims(2, [("load", 0), ("load", 0)])], [[], None, []])
        self.exactly([next_victims(2, []), next_victims(2, [("hit", 1)]), sure_groups(2, [])], [[0, 1], [0], [(0, 1)]])
        self.exactly([len(fitting(6, [])), sure_groups(6, []), next_victims(6, [])],
                     [945, [(0, 1, 2, 3, 4, 5)], [0, 1, 2, 3, 4, 5]])
        # Two loads at 0 with one at 1 between them: only a slot on the other side of the root can be loaded so often.
        run = [("load", 0), ("load", 1), ("load", 0)]
        self.exactly([fitting(3, run), sure_groups(3, run), next_victims(3, run)],
                     [[[(0, 1, 2), (1, 2)]], [(0, 1, 2), (1, 2)], [2]])

    def test_long_runs(self):
        shape = ((0, (1, 2)), (3, (4, 5)))
        run = valid_run(random.Random(243), shape, 1000)
        self.exactly([groups_of(shape) in fitting(6, run), sure_groups(6, run)], [True, groups_of(shape)])
        self.exactly(next_victims(6, run), plain_victims(shape, run))


class RanksTest(Case):
    def test_small_numbers_by_counting(self):
        chance = random.Random(244)
        for slots in range(1, 7):
            shapes = plain_trees(list(range(slots)))
            for _ in range(3 if slots < 6 else 1):
                # The slot that was used longest ago comes first, and has the highest rank.
                order = chance.sample(range(slots), slots)
                counts = [0] * slots
                for shape in shapes:
                    plain = Plain(text_of(shape))
                    flags = "L" * plain.forks
                    for slot in order:
                        flags = plain.after(flags, leaves(shape).index(slot))
                    victim = leaves(shape)[plain.victim(flags)]
                    counts[slots - 1 - order.index(victim)] += 1
                self.exactly(rank_counts(slots), counts)

    def test_great_numbers(self):
        self.exactly([rank_counts(1), rank_counts(2), rank_counts(3), rank_counts(4)], [[1], [0, 1], [0, 1, 2], [0, 3, 5, 7]])
        for slots in (7, 20, 59, 60):
            counts = rank_counts(slots)
            self.exactly([len(counts), sum(counts), counts[0]], [slots, tree_total(slots), 0])
            self.assertTrue(all(low < high for low, high in zip(counts, counts[1:])))

    def test_the_recurrence(self):
        ways = {(0, 0): 1}
        for many in range(1, 12):
            longer = {}
            for (rank, depth), number in ways.items():
                for place in range(depth + 1):
                    longer[many, place + 1] = longer.get((many, place + 1), 0) + number
                longer[rank, depth] = longer.get((rank, depth), 0) + number * (2 * many - 2 - depth)
            ways = longer
            right = [sum(number for (rank, _), number in ways.items() if rank == wanted) for wanted in range(many + 1)]
            self.exactly(rank_counts(many + 1), right)


class ArrangedTest(Case):
    def test_all_small_trees(self):
        for labels in ([7], [0, 1], [-3, 0, 10 ** 59], [-9, -4, 5, 6], [1, 3, 5, 7, 9]):
            for shape in plain_trees(labels):
                tree, slots = arranged(groups_of(shape), labels)
                self.assertIs(type(tree), Tree)
                # The plain trees have the smallest label on the left side of every fork, too.
                self.exactly((tree.text, slots), (text_of(shape), leaves(shape)))

    def test_written_out(self):
        tree, slots = arranged([(1, 3), (1, 3, 9)], [1, 3, 9])
        self.exactly((tree.text, slots), ("((..).)", [1, 3, 9]))
        tree, slots = arranged([(1, 2, 3, 4), (1, 4), (2, 3)], [1, 2, 3, 4])
        self.exactly((tree.text, slots), ("((..)(..))", [1, 4, 2, 3]))
        tree, slots = arranged([], [5])
        self.exactly((tree.text, slots), (".", [5]))

    def test_large_trees(self):
        chance = random.Random(245)
        for many in (30, 63, 64):
            labels = sorted(chance.sample(range(-500, 500), many))
            nodes = list(labels)
            while len(nodes) > 1:
                sides = sorted(chance.sample(range(len(nodes)), 2))
                right, left = nodes.pop(sides[1]), nodes.pop(sides[0])
                nodes.append((left, right) if min(leaves(left)) < min(leaves(right)) else (right, left))
            tree, slots = arranged(groups_of(nodes[0]), labels)
            self.exactly((tree.text, slots), (text_of(nodes[0]), leaves(nodes[0])))
        comb = [tuple(range(many)) for many in range(2, 65)]
        tree, slots = arranged(comb, list(range(64)))
        self.exactly((tree.text, slots), (Tree.comb(64, side="L").text, list(range(64))))

    def test_too_many_labels(self):
        comb = [tuple(range(many)) for many in range(2, 66)]
        for groups in (comb, comb[:-1], [], None, "x"):
            self.refuses(InvalidItem, (-1,), arranged, groups, list(range(65)))
            self.refuses(InvalidItem, (-1,), arranged, groups, list(range(1000)))

    def test_any_value(self):
        rights = [[], [(0, 1)], [(0, 1, 2), (0, 2)], [(0, 1, 2, 3), (0, 3), (1, 2)], [(0, 1), (0, 1, 2), (0, 1, 2, 3)]]
        for groups in rights:
            labels = list(range(len(groups) + 1))
            trees = [groups_of(shape) for shape in plain_trees(labels)]
            for value in variations(groups) + STRANGE + rights + [tuple(groups), groups + groups, groups[::-1]]:
                if any(alike(value, other) for other in trees):
                    self.exactly(arranged(value, labels)[1][0], 0)
                else:
                    self.refuses(InvalidItem, (-1,), arranged, value, labels)

    def test_wrong_groups(self):
        for groups in ([(0, 1)], [(0, 1, 2)], [(0, 1), (0, 1, 2), (0, 1, 2)], [(0, 1), (0, 2)], [(0, 1, 2), (0, 1)], [(1, 0), (0, 1, 2)],
                       [(0, 1), (0, 2, 1)], [(0, 0, 1), (0, 1, 2)], [(0, 1), (0, 1, 3)], [(0,), (0, 1, 2)], [(), (0, 1, 2)],
                       [(0, 1, 2), (0, 1, 2)], [[0, 1], (0, 1, 2)], [(0, 1), [0, 1, 2]], [(False, 1), (0, 1, 2)], [(0, True), (0, 1, 2)],
                       [(0, "1"), (0, 1, 2)], [(0, None), (0, 1, 2)], [(0, (1,)), (0, 1, 2)], [None, (0, 1, 2)], ((0, 1), (0, 1, 2))):
            self.refuses(InvalidItem, (-1,), arranged, groups, [0, 1, 2])
        # Groups that cross each other.
        self.refuses(InvalidItem, (-1,), arranged, [(0, 1), (0, 1, 2, 3), (1, 2)], [0, 1, 2, 3])
        self.refuses(InvalidItem, (-1,), arranged, [(0, 1, 2), (0, 1, 2, 3), (2, 3)], [0, 1, 2, 3])


class ArgumentsTest(Case):
    def test_numbers_of_slots(self):
        for value, error, values in WRONG["positive"]:
            for function, more in ((tree_total, []), (rank_counts, []), (each_groups, []), (fitting, [[]]), (sure_groups, [[]]),
                                   (next_victims, [[]]), (fitting, [None]), (sure_groups, [("x",)]), (next_victims, [0])):
                self.refuses(error, values, function, value, *more)
        for function in (tree_total, rank_counts):
            for value in (61, 64, 10 ** 59):
                self.refuses(InvalidNumber, (value,), function, value)
        for value in (7, 60, 10 ** 59):
            self.refuses(InvalidNumber, (value,), each_groups, value)
            for function in (fitting, sure_groups, next_victims):
                self.refuses(InvalidNumber, (value,), function, value, None)

    def test_runs(self):
        for function in (fitting, sure_groups, next_victims):
            check_wrong(self, function, ("any", 4), ("run", [("hit", 0)]))
            for slots in range(1, 7):
                self.refuses(InvalidLine, (1,), function, slots, [("hit", slots - 1), ("hit", slots)])

    def test_lists_stay_and_are_new(self):
        run, groups, labels = [("load", 0), ("load", 1)], [(1, 3), (1, 3, 9)], [1, 3, 9]
        trees = fitting(3, run)
        old = [list(groups) for groups in trees]
        slots = arranged(groups, labels)[1]
        sure, victims, counts = sure_groups(3, run), next_victims(3, run), rank_counts(3)
        before = [list(sure), list(victims), list(counts)]
        self.exactly([run, groups, labels], [[("load", 0), ("load", 1)], [(1, 3), (1, 3, 9)], [1, 3, 9]])
        for found in (trees[0], trees, slots, sure, victims, counts):
            found.clear()
        self.exactly([fitting(3, run), sure_groups(3, run), next_victims(3, run), rank_counts(3)], [old] + before)
        self.exactly([groups, labels, arranged(groups, labels)[1]], [[(1, 3), (1, 3, 9)], [1, 3, 9], [1, 3, 9]])
        for found in each_groups(3):
            found.clear()
        self.exactly([len(found) for found in each_groups(3)], [2, 2, 2])


if __name__ == "__main__":
    unittest.main()
