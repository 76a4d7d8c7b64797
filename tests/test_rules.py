"""lastside.rules: points 38 and 39."""

import itertools
import random
import unittest

from lastside.errors import InvalidFlags, InvalidRule
from lastside.rules import RULES, first_wrong_by, flags_by, same_rule
from lastside.runs import end_pattern, first_wrong
from lastside.trees import Tree
from tests.case import Case
from tests.plain import Plain, large_texts, texts_up_to
from tests.test_runs import random_pattern, random_run
from tests.wrong import TEXT, WRONG, check_wrong


def victim_by(plain, rule, flags):
    """The slot to which a load goes by the rule."""
    found = [slot for slot, path in enumerate(plain.paths)
             if all((flags[fork] == side) == (rule[2] == "s") for fork, side in path)]
    assert len(found) == 1
    return found[0]


def after_by(plain, rule, flags, kind, slot):
    """The flags after a line by the rule."""
    return plain.after(flags, slot) if rule["hit load".split().index(kind)] == "t" else flags


def plain_first_wrong(plain, rule, flags, run):
    """The first line that the cache of a rule would not have, and the fork where it leaves the way of a load."""
    for index, (kind, slot) in enumerate(run):
        if kind == "load" and slot != victim_by(plain, rule, flags):
            path, way = plain.paths[slot], plain.paths[victim_by(plain, rule, flags)]
            return index, [fork for (fork, side), (_, other) in zip(path, way) if side != other][0]
        flags = after_by(plain, rule, flags, kind, slot)
    return None


def valid_run(chance, plain, rule, flags, length):
    """A run that is valid by the rule."""
    run = []
    for _ in range(length):
        if chance.random() < 0.5:
            run.append(("load", victim_by(plain, rule, flags)))
        else:
            run.append(("hit", chance.randrange(plain.slots)))
        flags = after_by(plain, rule, flags, *run[-1])
    return run, flags


def alike_for_ever(plain, rule, other, start):
    """True if two rules send all loads to equal slots in all states that equal requests reach from equal flags."""
    waiting = [(start, start)]
    seen = set(waiting)
    for first, second in waiting:
        victims = (victim_by(plain, rule, first), victim_by(plain, other, second))
        if victims[0] != victims[1]:
            return False
        for kind, slot in [("hit", slot) for slot in range(plain.slots)] + [("load", victims[0])]:
            pair = (after_by(plain, rule, first, kind, slot), after_by(plain, other, second, kind, slot))
            if pair not in seen:
                seen.add(pair)
                waiting.append(pair)
    return True


class RunTest(Case):
    def check(self, plain, rule, flags, run):
        tree = Tree(plain.text)
        wrong = plain_first_wrong(plain, rule, flags, run)
        self.exactly(first_wrong_by(tree, rule, flags, run), wrong)
        behind = flags
        for kind, slot in run:
            behind = after_by(plain, rule, behind, kind, slot)
        self.exactly(flags_by(tree, rule, flags, run), behind)
        return wrong

    def test_all_short_runs(self):
        for text in texts_up_to(3):
            plain = Plain(text)
            lines = [(kind, slot) for kind in ("hit", "load") for slot in range(plain.slots)]
            for rule in RULES:
                for many in range(4):
                    for run in itertools.product(lines, repeat=many):
                        for flags in plain.all_flags():
                            self.check(plain, rule, flags, list(run))

    def test_random_runs(self):
        chance = random.Random(161)
        for text in texts_up_to(6, low=4):
            plain = Plain(text)
            for rule in RULES:
                flags = random_pattern(chance, plain.forks, "LR")
                self.check(plain, rule, flags, random_run(chance, plain.slots, 6))
                run, _ = valid_run(chance, plain, rule, flags, 12)
                self.assertIsNone(self.check(plain, rule, flags, run))
                for other in RULES:
                    self.check(plain, other, flags, run)
                # One load that goes elsewhere.
                at = chance.randrange(12)
                run[at] = ("load", chance.randrange(plain.slots))
                self.check(plain, rule, flags, run)

    def test_large_trees(self):
        chance = random.Random(162)
        for text in large_texts():
            plain = Plain(text)
            for rule in RULES:
                flags = random_pattern(chance, 63, "LR")
                run, _ = valid_run(chance, plain, rule, flags, 40)
                self.assertIsNone(self.check(plain, rule, flags, run))
                run[30] = ("load", chance.randrange(64))
                self.check(plain, rule, flags, run)

    def test_the_rule_of_the_other_parts(self):
        chance = random.Random(163)
        for text in texts_up_to(5):
            tree, plain = Tree(text), Plain(text)
            for _ in range(20):
                flags, run = random_pattern(chance, plain.forks, "LR"), random_run(chance, plain.slots, 5)
                wrong = first_wrong(tree, flags, run)
                self.exactly(first_wrong_by(tree, "tta", flags, run), None if wrong is None else wrong[:2])
                self.exactly(flags_by(tree, "tta", flags, run), end_pattern(tree, flags, run))

    def test_written_out(self):
        tree = Tree(TEXT)
        loads = [("load", 3), ("load", 1), ("load", 2), ("load", 0)]
        self.exactly([rule for rule in RULES if first_wrong_by(tree, rule, "LLL", loads) is None], ["tta", "kta"])
        hits = [("hit", 1), ("load", 3), ("load", 3)]
        self.exactly([first_wrong_by(tree, rule, "LLL", hits) for rule in RULES],
                     [(2, 1), (1, 1), None, (1, 1), (2, 1), (1, 1), None, (1, 1)])
        self.exactly([flags_by(tree, rule, "LLL", hits) for rule in RULES],
                     ["RRR", "RRR", "RLL", "RLL", "LRR", "LRR", "LLL", "LLL"])
        # Flags are told also if the run is not valid.
        self.exactly(flags_by(tree, "tta", "LLL", [("load", 0), ("load", 0)]), "LLL")
        self.exactly(flags_by(tree, "tka", "LLL", [("load", 0), ("hit", 3)]), "LRR")

    def test_one_slot_and_no_line(self):
        for rule in RULES:
            self.exactly(first_wrong_by(Tree("."), rule, "", [("load", 0), ("hit", 0), ("load", 0)]), None)
            self.exactly(flags_by(Tree("."), rule, "", [("load", 0)]), "")
            self.exactly([first_wrong_by(Tree(TEXT), rule, "LRL", []), flags_by(Tree(TEXT), rule, "LRL", [])], [None, "LRL"])


class RulesTest(Case):
    def test_the_tuple(self):
        self.exactly(RULES, ("tta", "tts", "tka", "tks", "kta", "kts", "kka", "kks"))

    def test_all_states_that_are_reached(self):
        for text in texts_up_to(4) + ["(.(.((..).)))"]:
            tree, plain = Tree(text), Plain(text)
            for rule, other in itertools.product(RULES, repeat=2):
                same = same_rule(tree, rule, other)
                for flags in plain.all_flags():
                    self.assertIs(alike_for_ever(plain, rule, other, flags), same)

    def test_pairs(self):
        alike = [{"tts", "tks"}, {"kts", "kks"}]
        for text in ["(..)", TEXT] + large_texts():
            for rule, other in itertools.product(RULES, repeat=2):
                self.exactly(same_rule(Tree(text), rule, other), rule == other or {rule, other} in alike)
        for rule, other in itertools.product(RULES, repeat=2):
            self.exactly(same_rule(Tree("."), rule, other), True)


class ArgumentsTest(Case):
    def test_wrong_arguments(self):
        tree = Tree(TEXT)
        rule, flags, run = ("rule", "tta"), ("flags", "LLL"), ("run", [("hit", 0)])
        check_wrong(self, first_wrong_by, ("any", tree), rule, flags, run)
        check_wrong(self, flags_by, ("any", tree), rule, flags, run)
        check_wrong(self, same_rule, ("any", tree), rule, rule)

    def test_wrong_rules_on_one_slot(self):
        for value, _, _ in WRONG["rule"]:
            self.refuses(InvalidRule, (value,), same_rule, Tree("."), value, value)
            self.refuses(InvalidRule, (value,), same_rule, Tree("."), "tta", value)
        self.refuses(InvalidFlags, ("L?L",), flags_by, Tree(TEXT), "tta", "L?L", [])
        self.refuses(InvalidFlags, ("L?L",), first_wrong_by, Tree(TEXT), "tta", "L?L", [])

    def test_runs_stay(self):
        run = [("load", 3), ("load", 3)]
        first_wrong_by(Tree(TEXT), "tta", "LLL", run)
        flags_by(Tree(TEXT), "tta", "LLL", run)
        self.exactly(run, [("load", 3), ("load", 3)])


if __name__ == "__main__":
    unittest.main()
