"""lastside.traces: points 44, 45 and 46."""

import itertools
import random
import unittest

from lastside.errors import InvalidItem, TooMany
from lastside.traces import history, is_history, possible_flags
from lastside.trees import Tree
from tests.case import Case, alike
from tests.plain import STRANGE, Plain, all_shapes, large_texts, texts_up_to, written
from tests.sighted import flags_by_moment, histories, random_trace, seen_trace, small_plains, small_traces
from tests.wrong import TEXT, TRACE, check_wrong, variations


def is_plain_history(plain, items, story):
    """Whether a well-formed value is a history, by following it."""
    flags, runs = story
    if len(runs) != len(items):
        return False
    for item, run in zip(items, runs):
        if item[0] == "flags":
            right = run == [] and flags in plain.fitting(item[1])
        elif item[0] == "some":
            right = item[1] <= len(run) <= (len(run) if item[2] is None else item[2])
        else:
            right = len(run) == 1 and run[0][1] in item[1] and item[0] in ("request", run[0][0])
        flags = plain.outcome(flags, run) if right else None
        if flags is None:
            return False
    return True


class PossibleTest(Case):
    def check(self, plain, items, bound=3):
        tree = Tree(plain.text)
        rows = flags_by_moment(plain, items, bound)
        self.exactly(possible_flags(tree, items), rows)
        story = history(tree, items)
        if rows[0]:
            self.exactly([type(story), len(story), type(story[1])], [tuple, 2, list])
            self.assertTrue(all(type(run) is list for run in story[1]))
            self.assertTrue(is_plain_history(plain, items, story))
            self.exactly(is_history(tree, items, story), True)
        else:
            self.exactly([story, rows], [None, [[] for _ in range(len(items) + 1)]])
        return len(rows[0]) > 0

    def test_all_small_traces(self):
        for plain in small_plains():
            for items in small_traces(plain, 2):
                self.check(plain, items)

    def test_against_all_histories(self):
        chance = random.Random(201)
        found = 0
        for plain in small_plains() + [Plain(TEXT)]:
            for _ in range(25):
                items = random_trace(chance, plain, chance.randrange(4), most=1)
                stories = histories(plain, items, bound=1 if plain.slots > 3 else 2)
                if plain.slots < 4 or all(item[0] != "some" or item[2] is not None for item in items):
                    right = [sorted({rows[moment] for _, rows in stories}) for moment in range(len(items) + 1)]
                    self.exactly(possible_flags(Tree(plain.text), items), right)
                for story, _ in chance.sample(stories, min(len(stories), 100)):
                    self.exactly(is_history(Tree(plain.text), items, story), True)
                    found += 1
        self.assertGreater(found, 1000)

    def test_random_traces(self):
        chance = random.Random(202)
        answers = []
        for text in texts_up_to(5, low=3):
            plain = Plain(text)
            for _ in range(6):
                answers.append(self.check(plain, random_trace(chance, plain, chance.randrange(1, 7))))
        self.assertTrue(15 < answers.count(True) < len(answers) - 15, answers.count(True))

    def test_six_and_seven_slots(self):
        chance = random.Random(203)
        for many in (6, 7):
            for shape in chance.sample(all_shapes(many), 6):
                plain = Plain(written(shape))
                for items in (random_trace(chance, plain, 4, most=1), seen_trace(chance, plain, 8)[0]):
                    items = [item if item[0] != "some" else ("some", 0, 1) for item in items]
                    self.check(plain, items)

    def test_what_truly_happened_is_possible(self):
        chance = random.Random(204)
        for text in texts_up_to(4) + [written(chance.choice(all_shapes(7))) for _ in range(6)]:
            plain, tree = Plain(text), Tree(text)
            for _ in range(4):
                items, rows = seen_trace(chance, plain, chance.choice([5, 20, 60]))
                possible = possible_flags(tree, items)
                self.assertTrue(all(flags in row for flags, row in zip(rows, possible)))
                story = history(tree, items)
                self.assertTrue(is_plain_history(plain, items, story))
                self.exactly(is_history(tree, items, story), True)

    def test_the_empty_trace(self):
        for text in texts_up_to(5):
            plain = Plain(text)
            self.exactly(possible_flags(Tree(text), []), [plain.all_flags()])
            flags, runs = history(Tree(text), [])
            self.exactly([flags in plain.all_flags(), runs], [True, []])

    def test_one_slot(self):
        tree = Tree(".")
        items = [("flags", ""), ("load", (0,)), ("request", (0,)), ("some", 2, None), ("hit", (0,)), ("some", 0, 0)]
        self.exactly(possible_flags(tree, items), [[""]] * 7)
        story = history(tree, items)
        self.exactly([story[0], story[1][0], story[1][1], story[1][4], story[1][5]], ["", [], [("load", 0)], [("hit", 0)], []])
        self.exactly(len(story[1][3]), 2)

    def test_numbers_of_requests(self):
        tree, plain = Tree(TEXT), Plain(TEXT)
        first, last = ("flags", "LLL"), ("flags", "RRR")
        # From LLL to RRR two hits are needed.
        for low, high, right in ((0, 0, False), (0, 1, False), (1, 1, False), (0, 2, True), (2, 2, True), (0, None, True),
                                 (1000, 1000, True), (1000, None, True), (3, 10 ** 59, True), (5, 7, True)):
            items = [first, ("some", low, high), last]
            story = history(tree, items)
            self.exactly([story is not None, possible_flags(tree, items)[0]], [right, ["LLL"] if right else []])
            if right:
                self.exactly(is_history(tree, items, story), True)
                self.assertTrue(is_plain_history(plain, items, story))
                self.assertTrue(low <= len(story[1][1]) and (high is None or len(story[1][1]) <= high))
        self.exactly(possible_flags(tree, [first, ("some", 0, 0)]), [["LLL"]] * 3)
        self.exactly(possible_flags(tree, [("some", 0, 1), first, ("some", 1, 1)])[2:],
                     [["LLL"], sorted({plain.after("LLL", slot) for slot in range(4)})])
        self.exactly(possible_flags(tree, [first, ("some", 1000, None)])[2], plain.all_flags())
        # Many requests may leave the flags as they are.
        self.exactly(history(tree, [first, ("some", 3, 3), first]), ("LLL", [[], [("hit", 0)] * 3, []]))

    def test_flags_between_requests(self):
        tree = Tree(TEXT)
        items = [("hit", (0, 3)), ("flags", "?R?"), ("load", (0, 1)), ("flags", "??L")]
        self.exactly(possible_flags(tree, items), [[]] * 5)
        items[3] = ("flags", "??R")
        rows = possible_flags(tree, items)
        self.exactly(rows[1:], [["LRR", "RRR"], ["LRR", "RRR"], ["LLR", "RLR"], ["LLR", "RLR"]])
        self.exactly(rows[0], ["LLL", "LLR", "LRL", "LRR", "RLL", "RLR", "RRL", "RRR"])

    def test_sixty_items(self):
        tree = Tree("(((..)(..))(.(..)))")
        items = [("load", (0, 1, 2, 3, 4, 5, 6)), ("some", 0, None), ("request", (2, 4))] * 20
        rows = possible_flags(tree, items)
        self.exactly([len(rows), len(rows[0]), all(rows)], [61, 64, True])
        self.exactly(is_history(tree, items, history(tree, items)), True)
        # The last request leaves other flags behind.
        self.exactly(possible_flags(tree, items[:58] + [("request", (2, 4)), ("flags", "?L?L??")]), [[]] * 61)


class HistoryTest(Case):
    def test_all_runs_of_small_traces(self):
        chance = random.Random(205)
        found = 0
        for plain in small_plains():
            tree = Tree(plain.text)
            lines = [(kind, slot) for kind in ("hit", "load") for slot in range(plain.slots)]
            runs = [list(run) for many in range(3) for run in itertools.product(lines, repeat=many)]
            for items in chance.sample(small_traces(plain, 2), 25):
                for flags in plain.all_flags():
                    for chosen in itertools.product(chance.sample(runs, min(len(runs), 12)) + [[]], repeat=len(items)):
                        right = is_plain_history(plain, items, (flags, list(chosen)))
                        found += right
                        self.exactly(is_history(tree, items, (flags, list(chosen))), right)
        self.assertGreater(found, 200)

    def test_any_value(self):
        tree, plain = Tree(TEXT), Plain(TEXT)
        for items in (TRACE, [("some", 1, None), ("hit", (0, 1))], [("flags", "L??")], []):
            story = history(tree, items)
            for value in variations(story) + STRANGE + [list(story), story + ([],), story[::-1], story[1], (story[0], tuple(story[1]))]:
                right = self.well_formed(value) and is_plain_history(plain, items, value)
                self.assertIs(is_history(tree, items, value), right, value)

    def well_formed(self, value):
        """A tuple of flags and a list of lists of lines of the tree TEXT."""
        if type(value) is not tuple or len(value) != 2 or value[0] not in Plain(TEXT).all_flags() or type(value[1]) is not list:
            return False
        lines = [(kind, slot) for kind in ("hit", "load") for slot in range(4)]
        return all(type(run) is list and all(any(alike(line, right) for right in lines) for line in run) for run in value[1])

    def test_wrong_forms(self):
        tree, items = Tree("(..)"), [("load", (0, 1)), ("some", 1, 1)]
        self.exactly(is_history(tree, items, ("L", [[("load", 1)], [("load", 0)]])), True)
        for value in (["L", [[("load", 1)], [("load", 0)]]], ("L", ([("load", 1)], [("load", 0)])), ("L", [(("load", 1),), [("load", 0)]]),
                      ("L", [[["load", 1]], [("load", 0)]]), ("L", [[("load", True)], [("load", 0)]]), ("?", [[("load", 1)], [("load", 0)]]),
                      ("L", [[("load", 1)], []]), ("L", [[("load", 1)], [("load", 0), ("hit", 0)]]), ("L", [[("hit", 1)], [("load", 0)]]),
                      ("L", [[("load", 0)], [("load", 0)]]), ("L", [[("load", 1)], [("load", 1)]]), ("L", [[("load", 1)]]),
                      ("L", [[("load", 1), ("load", 0)]]), ("L", [[("load", 1)], [("load", 0)], []]), ("LL", [[("load", 1)], [("load", 0)]]),
                      ("R", [[("load", 1)], [("load", 0)]]), (0, [[("load", 1)], [("load", 0)]]), ("L", None), None, "L", ()):
            self.exactly(is_history(tree, items, value), False)


class ArgumentsTest(Case):
    def test_wrong_arguments(self):
        tree = Tree(TEXT)
        items = ("items", TRACE)
        check_wrong(self, possible_flags, ("any", tree), items)
        check_wrong(self, history, ("any", tree), items)
        check_wrong(self, is_history, ("any", tree), items, ("any", None))

    def test_items_of_other_trees(self):
        self.refuses(InvalidItem, (0,), possible_flags, Tree("."), [("hit", (1,))])
        self.refuses(InvalidItem, (0,), possible_flags, Tree("."), [("flags", "L")])
        self.refuses(InvalidItem, (1,), possible_flags, Tree("(..)"), [("flags", "?"), ("flags", "")])
        self.refuses(InvalidItem, (0,), possible_flags, Tree("(..)"), [("load", (0, 2))])

    def test_seven_and_eight_slots(self):
        self.exactly([len(row) for row in possible_flags(Tree.comb(7), [("some", 0, 5)])], [64, 64])
        for tree in [Tree.comb(8), Tree.even(3)] + [Tree(text) for text in large_texts()[:2]]:
            for function, more in ((possible_flags, []), (history, []), (is_history, [None]), (is_history, [("", [])])):
                self.refuses(TooMany, (7,), function, tree, [], *more)
                self.refuses(TooMany, (7,), function, tree, [("hit", (0, 7))], *more)
                # The arguments are checked first.
                self.refuses(InvalidItem, (-1,), function, tree, None, *more)
                self.refuses(InvalidItem, (1,), function, tree, [("hit", (0, 7)), ("hit", (64,))], *more)

    def test_lists_stay_and_are_new(self):
        tree, items = Tree(TEXT), [("some", 1, 2), ("load", (0, 1))]
        rows, story = possible_flags(tree, items), history(tree, items)
        old = ([list(row) for row in rows], (story[0], [list(run) for run in story[1]]))
        self.exactly(is_history(tree, items, story), True)
        self.exactly([items, rows, story], [[("some", 1, 2), ("load", (0, 1))], old[0], old[1]])
        rows[0].clear()
        rows[1].append("x")
        self.exactly(rows[2], old[0][2])
        story[1][0].clear()
        story[1].pop()
        self.exactly([possible_flags(tree, items), history(tree, items)], [old[0], old[1]])


if __name__ == "__main__":
    unittest.main()
