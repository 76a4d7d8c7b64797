"""lastside.faults: points 50 and 51."""

import itertools
import random
import unittest

from lastside.errors import InvalidItem, TooMany
from lastside.faults import count_faults, fault_story, fault_table, fewest_faults, is_closed_table
from lastside.traces import history, possible_flags
from lastside.trees import Tree
from tests.case import Case, alike
from tests.plain import STRANGE, Plain, all_shapes, texts_up_to, written
from tests.sighted import histories, lines_of, random_trace, runs_of, seen_trace, small_plains, small_traces
from tests.wrong import TEXT, TRACE, check_wrong, variations

REQUESTS = ("hit", "load", "request")
ALLOWED = [dict(zip(("wrong", "false", "lost"), allowed)) for allowed in itertools.product((True, False), repeat=3)]


def takings(plain, item, flags, allowed, bound=3):
    """The ways to take an item from the flags: tuples (word, lines)."""
    ways = [("kept", run) for run in runs_of(plain, item, flags, bound)]
    if item[0] in REQUESTS and allowed["wrong"]:
        ways += [("wrong", [line]) for line in lines_of(plain, flags, ("hit", "load"), range(plain.slots))]
    if item[0] in REQUESTS and allowed["false"]:
        ways.append(("false", []))
    return ways


def all_stories(plain, items, allowed, most, bound=3):
    """All fault stories with at most so many faults: tuples (story, faults, flags behind it)."""
    found = []
    waiting = [(flags, [], flags, 0, 0) for flags in plain.all_flags()]
    while waiting:
        start, steps, flags, index, faults = waiting.pop()
        if index == len(items):
            found.append(((start, steps), faults, flags))
        ways = [("lost", [line]) for line in lines_of(plain, flags, ("hit", "load"), range(plain.slots)) if allowed["lost"]]
        if index < len(items):
            ways += takings(plain, items[index], flags, allowed, bound)
        for word, lines in ways:
            more = faults + (word != "kept")
            if more <= most:
                behind = plain.outcome(flags, lines)
                waiting.append((start, steps + [(word, index, lines)], behind, index + (word != "lost"), more))
    return found


def plain_table(plain, items, allowed, bound=3):
    """The fault table, by improving costs step by step until nothing becomes cheaper."""
    steps = [{flags: {(plain.outcome(flags, lines), int(word != "kept")) for word, lines in takings(plain, item, flags, allowed, bound)}
              for flags in plain.all_flags()} for item in items]
    rows = [{flags: 0 for flags in plain.all_flags()}] + [{} for _ in items]
    for index in range(len(items) + 1):
        for _ in range(len(rows[0]) if allowed["lost"] else 0):
            for flags in list(rows[index]):
                for slot in range(plain.slots):
                    after = plain.after(flags, slot)
                    rows[index][after] = min(rows[index].get(after, 10 ** 9), rows[index][flags] + 1)
        if index < len(items):
            for flags, cost in rows[index].items():
                for after, more in steps[index][flags]:
                    rows[index + 1][after] = min(rows[index + 1].get(after, 10 ** 9), cost + more)
    return [sorted(row.items()) for row in rows]


def is_plain_closed(plain, items, table, allowed, bound=3):
    """Whether a table of the right form is closed, by the words of point 51."""
    rows = [dict(row) for row in table]
    if len(rows) != len(items) + 1 or any(list(row) != sorted(row) or len(row) != len(pairs) for row, pairs in zip(rows, table)):
        return False
    if rows[0] != {flags: 0 for flags in plain.all_flags()}:
        return False
    for index, row in enumerate(rows):
        for flags, cost in row.items():
            for slot in range(plain.slots if allowed["lost"] else 0):
                if row.get(plain.after(flags, slot), 10 ** 99) > cost + 1:
                    return False
            for word, lines in takings(plain, items[index], flags, allowed, bound) if index < len(items) else []:
                if rows[index + 1].get(plain.outcome(flags, lines), 10 ** 99) > cost + (word != "kept"):
                    return False
    return True


def plain_count(plain, items, story):
    """The number of faults of a well-formed value, or None if it is no fault story, by following it."""
    flags, steps = story
    index, faults = 0, 0
    for word, at, lines in steps:
        if at != index or plain.outcome(flags, lines) is None:
            return None
        item = items[index] if index < len(items) else None
        request = item is not None and item[0] in REQUESTS
        right = {"lost": len(lines) == 1, "wrong": request and len(lines) == 1, "false": request and not lines}.get(word)
        if word == "kept" and item is not None:
            right = request and len(lines) == 1 and lines[0][1] in item[1] and item[0] in ("request", lines[0][0])
            right = right or item[0] == "flags" and not lines and flags in plain.fitting(item[1])
            right = right or item[0] == "some" and item[1] <= len(lines) and (item[2] is None or len(lines) <= item[2])
        if not right:
            return None
        flags = plain.outcome(flags, lines)
        index, faults = index + (word != "lost"), faults + (word != "kept")
    return faults if index == len(items) else None


class FewestTest(Case):
    def check(self, plain, items, bound=3, choices=tuple(ALLOWED)):
        tree = Tree(plain.text)
        for allowed in choices:
            table = plain_table(plain, items, allowed, bound)
            least = min((cost for _, cost in table[-1]), default=None)
            self.exactly(fewest_faults(tree, items, **allowed), least)
            self.exactly(fault_table(tree, items, **allowed), table)
            self.exactly(is_closed_table(tree, items, table, **allowed), True)
            story = fault_story(tree, items, **allowed)
            if least is None:
                self.exactly(story, None)
            else:
                self.exactly([type(story), type(story[1]), plain_count(plain, items, story)], [tuple, list, least])
                self.exactly(count_faults(tree, items, story), least)
                words = {word for word, _, _ in story[1]} - {"kept"}
                self.assertLessEqual(words, {word for word, may in allowed.items() if may})

    def test_all_stories_of_small_traces(self):
        chance = random.Random(231)
        counted = 0
        for plain in small_plains()[:3]:
            tree = Tree(plain.text)
            traces = [items for items in small_traces(plain, 2) if len(items) > 0]
            for items in chance.sample(traces, 25) + [[]]:
                for allowed in ALLOWED:
                    most = 2 if plain.slots < 3 else 1
                    stories = all_stories(plain, items, allowed, most, bound=1)
                    least = fewest_faults(tree, items, **allowed)
                    faults = [number for _, number, _ in stories]
                    if least is not None and least <= most:
                        self.exactly(min(faults), least)
                    else:
                        self.exactly(faults, [])
                    for story, number, _ in chance.sample(stories, min(len(stories), 20)):
                        self.exactly(count_faults(tree, items, story), number)
                        counted += 1
        self.assertGreater(counted, 2000)

    def test_tables_of_all_stories(self):
        chance = random.Random(232)
        for plain in small_plains()[1:3]:
            for _ in range(12):
                items = random_trace(chance, plain, 2, most=1)
                for allowed in ALLOWED:
                    table = fault_table(Tree(plain.text), items, **allowed)
                    for moment, row in enumerate(table):
                        least = {}
                        for _, faults, flags in all_stories(plain, items[:moment], allowed, 3 if plain.slots < 3 else 2, bound=2):
                            least[flags] = min(faults, least.get(flags, faults))
                        self.exactly([pair for pair in row if pair[1] <= (3 if plain.slots < 3 else 2)], sorted(least.items()))

    def test_all_small_traces(self):
        chance = random.Random(233)
        for plain in small_plains():
            traces = small_traces(plain, 2)
            for items in chance.sample(traces, min(len(traces), 60)):
                self.check(plain, items)

    def test_random_traces(self):
        chance = random.Random(234)
        for text in texts_up_to(4, low=3):
            plain = Plain(text)
            for many in (3, 6, 9):
                items = random_trace(chance, plain, many, most=1)
                self.check(plain, items, choices=[ALLOWED[0]] + chance.sample(ALLOWED[1:], 3))

    def test_larger_trees(self):
        chance = random.Random(235)
        for many in (5, 6, 7):
            for shape in chance.sample(all_shapes(many), 3):
                plain = Plain(written(shape))
                items = [item if item[0] != "some" else ("some", 0, 1) for item in random_trace(chance, plain, 7)]
                self.check(plain, items, choices=chance.sample(ALLOWED, 3))

    def test_traces_that_truly_happened(self):
        chance = random.Random(236)
        for text in texts_up_to(4) + [written(chance.choice(all_shapes(7)))]:
            plain, tree = Plain(text), Tree(text)
            items, rows = seen_trace(chance, plain, 30)
            for allowed in ALLOWED:
                self.exactly(fewest_faults(tree, items, **allowed), 0)
                for row, flags in zip(fault_table(tree, items, **allowed), rows):
                    self.assertIn((flags, 0), row)
            # A history is a fault story without a fault.
            start, runs = history(tree, items)
            self.exactly(count_faults(tree, items, (start, [("kept", index, run) for index, run in enumerate(runs)])), 0)

    def test_one_kind_alone(self):
        tree, items = Tree("(..)"), [("flags", "L"), ("load", (0,)), ("flags", "L")]
        alone = [fewest_faults(tree, items, wrong=wrong, false=false, lost=lost)
                 for wrong, false, lost in ((True, False, False), (False, True, False), (False, False, True), (False, False, False))]
        self.exactly(alone, [1, 1, 1, None])
        self.exactly(fault_story(tree, items, wrong=False, lost=False), ("L", [("kept", 0, []), ("false", 1, []), ("kept", 2, [])]))
        self.exactly(fault_story(tree, items, false=False, lost=False),
                     ("L", [("kept", 0, []), ("wrong", 1, [("hit", 0)]), ("kept", 2, [])]))
        self.exactly(fault_story(tree, items, false=False, wrong=False),
                     ("L", [("kept", 0, []), ("lost", 1, [("hit", 1)]), ("kept", 1, [("load", 0)]), ("kept", 2, [])]))
        self.exactly(fault_story(tree, items, wrong=False, false=False, lost=False), None)
        self.exactly(fault_table(tree, items, wrong=False, false=False, lost=False), [[("L", 0), ("R", 0)], [("L", 0)], [], []])
        self.exactly(fault_table(tree, items, wrong=False, false=False), [[("L", 0), ("R", 0)], [("L", 0), ("R", 1)], [("L", 1), ("R", 2)],
                                                                       [("L", 1), ("R", 2)]])

    def test_flags_and_gaps_are_never_faulty(self):
        tree = Tree("(..)")
        self.exactly([fewest_faults(tree, [("flags", "L"), ("flags", "R")]), fewest_faults(tree, [("flags", "L"), ("flags", "R")], lost=False),
                      fewest_faults(tree, [("flags", "L"), ("some", 0, 0), ("flags", "R")], lost=False),
                      fewest_faults(tree, [("flags", "L"), ("some", 0, 1), ("flags", "R")], lost=False)], [1, None, None, 0])
        story = ("L", [("kept", 0, []), ("wrong", 1, [("hit", 1)])])
        for items in ([("flags", "L"), ("flags", "R")], [("flags", "L"), ("some", 0, 0)], [("flags", "L"), ("some", 1, 1)]):
            self.exactly(count_faults(tree, items, story), None)
            self.exactly(count_faults(tree, items, ("L", [("kept", 0, []), ("false", 1, [])])), None)
        self.exactly(count_faults(tree, [("flags", "L"), ("hit", (0,))], story), 1)

    def test_the_empty_trace_and_one_slot(self):
        for text in texts_up_to(4):
            plain, tree = Plain(text), Tree(text)
            for allowed in ALLOWED:
                self.exactly([fewest_faults(tree, [], **allowed), fault_story(tree, [], **allowed)[1]], [0, []])
                self.exactly(fault_table(tree, [], **allowed), [[(flags, 0) for flags in plain.all_flags()]])
        items = [("load", (0,)), ("some", 1, None), ("flags", "")]
        self.exactly(fault_table(Tree("."), items), [[("", 0)]] * 4)
        self.exactly(count_faults(Tree("."), [], ("", [("lost", 0, [("load", 0)])] * 5)), 5)

    def test_lost_requests_behind_the_last_item(self):
        tree, items = Tree("(..)"), [("hit", (0,))]
        right = ("R", [("kept", 0, [("hit", 0)]), ("lost", 1, [("load", 1)]), ("lost", 1, [("hit", 1)])])
        self.exactly(count_faults(tree, items, right), 2)
        for steps in ([("lost", 1, [("hit", 1)]), ("kept", 0, [("hit", 0)])], [("kept", 0, [("hit", 0)]), ("lost", 0, [("hit", 1)])],
                      [("kept", 0, [("hit", 0)]), ("lost", 2, [("hit", 1)])], [("lost", 0, [("hit", 1)])],
                      [("kept", 0, [("hit", 0)]), ("kept", 1, [("hit", 1)])], [("kept", 0, [("hit", 0)]), ("lost", 1, [])],
                      [("kept", 0, [("hit", 0)]), ("lost", 1, [("hit", 1), ("hit", 1)])], [("kept", 0, [("hit", 0)])] * 2):
            self.exactly(count_faults(tree, items, ("R", steps)), None)

    def test_sixty_items(self):
        tree, plain = Tree("(((..)(..))(.(..)))"), Plain("(((..)(..))(.(..)))")
        # Each second load at a slot comes directly behind one at the same slot, so one of both is faulty.
        items = [("load", (4,)), ("load", (4,)), ("hit", (0, 1)), ("some", 0, 1)] * 15
        for allowed in ALLOWED[:-1]:
            story = fault_story(tree, items, **allowed)
            right = plain_count(plain, items, story)
            self.exactly([fewest_faults(tree, items, **allowed), count_faults(tree, items, story)], [right, right])
            self.assertGreaterEqual(right, 15)
            self.exactly(is_closed_table(tree, items, fault_table(tree, items, **allowed), **allowed), True)


class CountTest(Case):
    def test_any_value(self):
        tree, plain = Tree(TEXT), Plain(TEXT)
        items = [("load", (0, 1)), ("flags", "??R"), ("some", 0, 1), ("load", (0, 1)), ("request", (3,))]
        for allowed in ALLOWED[:-1]:
            story = fault_story(tree, items, **allowed)
            if story is None:
                continue
            accepted = 0
            for value in variations(story) + STRANGE + [list(story), story + ([],), story[::-1], (story[0], tuple(story[1]))]:
                right = plain_count(plain, items, value) if self.well_formed(value) else None
                accepted += right is not None
                self.exactly(count_faults(tree, items, value), right)
            self.assertGreater(len(variations(story)), 100)

    def well_formed(self, value):
        """A tuple of flags and a list of steps with lines of the tree TEXT."""
        if type(value) is not tuple or len(value) != 2 or value[0] not in Plain(TEXT).all_flags() or type(value[1]) is not list:
            return False
        lines = [(kind, slot) for kind in ("hit", "load") for slot in range(4)]
        return all(type(step) is tuple and len(step) == 3 and step[0] in ("kept", "wrong", "false", "lost") and type(step[1]) is int
                   and type(step[2]) is list and all(any(alike(line, right) for right in lines) for line in step[2]) for step in value[1])

    def test_wrong_forms(self):
        tree, items = Tree("(..)"), [("load", (0,)), ("some", 1, 1)]
        right = ("R", [("lost", 0, [("hit", 1)]), ("kept", 0, [("load", 0)]), ("kept", 1, [("load", 1)])])
        self.exactly(count_faults(tree, items, right), 1)
        lost, kept, last = right[1]
        for value in (["R", right[1]], ("R", tuple(right[1])), ("?", right[1]), ("", right[1]), ("R", [list(lost), kept, last]),
                      ("R", [("lost", False, [("hit", 1)]), kept, last]), ("R", [("lost", 0, (("hit", 1),)), kept, last]),
                      ("R", [("lost", 0, [["hit", 1]]), kept, last]), ("R", [("lost", 0, [("hit", True)]), kept, last]),
                      ("R", [("Lost", 0, [("hit", 1)]), kept, last]), ("R", [("lost", 1, [("hit", 1)]), kept, last]),
                      ("R", [lost, kept, ("kept", True, [("load", 1)])]), ("R", [lost, kept]), ("R", [lost, last, kept]),
                      ("R", [lost, kept, last, last]), ("R", [lost, kept, ("kept", 1, [("load", 0)])]), ("R", [lost, kept, ("kept", 1, [])]),
                      ("R", [lost, kept, ("kept", 1, [("load", 1)], 0)]), ("R", [lost, kept, ("kept", 1)]), ("R", [lost, kept, None])):
            self.exactly(count_faults(tree, items, value), None)
        # The same without the lost request from other flags.
        self.exactly([count_faults(tree, items, (flags, [kept, last])) for flags in "LR"], [None, 0])

    def test_lines_and_words_of_faulty_steps(self):
        tree, items = Tree("(..)"), [("load", (0,))]
        lines = [("hit", 0), ("hit", 1), ("load", 1), ("load", 0)]
        for flags in "LR":
            for run in [[]] + [[line] for line in lines] + [[line, other] for line in lines for other in lines]:
                for word in ("kept", "wrong", "false", "lost", "False", "KEPT", "", "request", "load", None, True, 0, ["false"], ("false",)):
                    value = (flags, [(word, 0, run)])
                    right = plain_count(Plain("(..)"), items, value) if word in ("kept", "wrong", "false", "lost") else None
                    self.exactly(count_faults(tree, items, value), right)
                    self.exactly(count_faults(tree, items, (flags, [(word, 0, run), ("false", 0, [])])),
                                 2 if word == "lost" and right is None and len(run) == 1
                                 and Plain("(..)").outcome(flags, run) is not None else None)

    def test_wrong_requests_may_be_right_ones(self):
        tree, items = Tree("(..)"), [("load", (0, 1))]
        for line, flags, right in ((("load", 0), "R", 1), (("load", 0), "L", None), (("hit", 0), "L", 1), (("hit", 1), "L", 1), (("load", 1), "L", 1)):
            self.exactly(count_faults(tree, items, (flags, [("wrong", 0, [line])])), right)
            kept = 0 if line[0] == "load" and right else None
            self.exactly(count_faults(tree, items, (flags, [("kept", 0, [line])])), kept)


class TableTest(Case):
    def test_tables_with_one_thing_changed(self):
        for text, items in (("(..)", [("flags", "L"), ("load", (0,)), ("request", (0, 1))]), ("((..).)", [("load", (1,)), ("some", 0, 1)]),
                            (".", [("load", (0,))]), ("(..)", [])):
            tree, plain = Tree(text), Plain(text)
            for allowed in ALLOWED:
                table = fault_table(tree, items, **allowed)
                accepted = 0
                for value in variations(table) + STRANGE + [tuple(table), table + [[]], table[:-1]]:
                    right = self.well_formed(plain, value) and is_plain_closed(plain, items, value, allowed)
                    accepted += right
                    self.assertIs(is_closed_table(tree, items, value, **allowed), right, (items, allowed, value))
                self.assertLess(accepted, 60)

    def well_formed(self, plain, value):
        """A list of lists of tuples (flags, cost)."""
        return type(value) is list and all(type(row) is list and all(
            type(pair) is tuple and len(pair) == 2 and pair[0] in plain.all_flags() and type(pair[1]) is int and pair[1] >= 0
            for pair in row) for row in value)

    def test_costs_that_are_not_the_least(self):
        tree, items = Tree("(..)"), [("flags", "L"), ("hit", (1,))]
        right = [[("L", 0), ("R", 0)], [("L", 0), ("R", 1)], [("L", 1), ("R", 0)]]
        self.exactly(fault_table(tree, items), right)
        rows = [([[("L", 0), ("R", 0)], [("L", 0), ("R", 0)], [("L", 0), ("R", 0)]], True),
                ([[("L", 0), ("R", 0)], [("L", 0), ("R", 1)], [("L", 0), ("R", 0)]], True),
                ([[("L", 0), ("R", 0)], [("L", 0), ("R", 2)], [("L", 1), ("R", 0)]], False),
                ([[("L", 0), ("R", 0)], [("L", 0), ("R", 1)], [("L", 2), ("R", 0)]], False),
                ([[("L", 0), ("R", 0)], [("L", 1), ("R", 1)], [("L", 1), ("R", 0)]], False),
                ([[("L", 0), ("R", 1)], [("L", 0), ("R", 1)], [("L", 1), ("R", 0)]], False),
                ([[("L", 0)], [("L", 0), ("R", 1)], [("L", 1), ("R", 0)]], False),
                ([[("R", 0), ("L", 0)], [("L", 0), ("R", 1)], [("L", 1), ("R", 0)]], False),
                ([[("L", 0), ("R", 0)], [("L", 0), ("L", 0), ("R", 1)], [("L", 1), ("R", 0)]], False),
                ([[("L", 0), ("R", 0)], [("L", 0), ("L", 1), ("R", 1)], [("L", 1), ("R", 0)]], False)]
        for table, closed in rows:
            self.exactly(is_closed_table(tree, items, table), closed)
        # What is closed for some kinds of faults need not be closed for more of them.
        none = fault_table(tree, items, wrong=False, false=False, lost=False)
        self.exactly(none, [[("L", 0), ("R", 0)], [("L", 0)], [("R", 0)]])
        self.exactly([is_closed_table(tree, items, none, **allowed) for allowed in ALLOWED], [False] * 7 + [True])
        self.exactly([is_closed_table(tree, items, right, **allowed) for allowed in ALLOWED], [True] * 8)
        self.exactly(is_closed_table(tree, items, [[("L", 0), ("R", 0)], [("L", 0)], [("L", 10 ** 59), ("R", 0)]],
                                     wrong=False, false=False, lost=False), True)

    def test_empty_elements(self):
        tree, items = Tree("(..)"), [("flags", "L"), ("flags", "R"), ("load", (0,))]
        for wrong, false in itertools.product((True, False), repeat=2):
            table = fault_table(tree, items, wrong=wrong, false=false, lost=False)
            self.exactly(table, [[("L", 0), ("R", 0)], [("L", 0)], [], []])
            self.exactly(is_closed_table(tree, items, table, wrong=wrong, false=false, lost=False), True)
            self.exactly(fewest_faults(tree, items, wrong=wrong, false=false, lost=False), None)
        self.exactly([[flags for flags, _ in row] for row in fault_table(tree, items)], [["L", "R"]] * 4)


class ArgumentsTest(Case):
    def test_wrong_arguments(self):
        tree = Tree(TEXT)
        items = ("items", TRACE)
        for function in (fewest_faults, fault_story, fault_table):
            check_wrong(self, function, ("any", tree), items)
        for function in (count_faults, is_closed_table):
            check_wrong(self, function, ("any", tree), items, ("any", None))

    def test_seven_and_eight_slots(self):
        self.exactly(fewest_faults(Tree.comb(7), [("load", (0,)), ("load", (0,))]), 1)
        tree = Tree.comb(8)
        for function, more in ((fewest_faults, []), (fault_story, []), (fault_table, []), (count_faults, [None]), (is_closed_table, [None])):
            self.refuses(TooMany, (7,), function, tree, [], *more)
            self.refuses(TooMany, (7,), function, tree, [("load", (7,))], *more)
            self.refuses(InvalidItem, (0,), function, tree, [("load", (8,))], *more)

    def test_faults_that_are_not_allowed_agree_with_histories(self):
        chance = random.Random(237)
        for plain in small_plains():
            for items in [random_trace(chance, plain, 4, most=1) for _ in range(20)]:
                tree = Tree(plain.text)
                least = fewest_faults(tree, items, wrong=False, false=False, lost=False)
                self.exactly(least, 0 if possible_flags(tree, items)[0] else None)
                if least == 0 and plain.slots < 3:
                    self.assertGreater(len(histories(plain, items)), 0)

    def test_lists_stay_and_are_new(self):
        tree, items = Tree("(..)"), [("load", (0,)), ("load", (0,))]
        story, table = fault_story(tree, items), fault_table(tree, items)
        old = ((story[0], [(word, index, list(lines)) for word, index, lines in story[1]]), [list(row) for row in table])
        self.exactly([count_faults(tree, items, story), is_closed_table(tree, items, table)], [1, True])
        self.exactly([(story, table), items], [old, [("load", (0,)), ("load", (0,))]])
        story[1][0][2].append(None)
        story[1].clear()
        table[0].clear()
        table[1].append(None)
        self.exactly((fault_story(tree, items), fault_table(tree, items)), old)


if __name__ == "__main__":
    unittest.main()
