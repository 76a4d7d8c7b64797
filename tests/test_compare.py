"""lastside.compare: point 41."""

import random
import unittest

from lastside.compare import compare, parted_at
from lastside.errors import InvalidEntry, TooMany
from lastside.keepers import QueueKeeper, RecencyKeeper, SideKeeper
from lastside.rules import RULES
from lastside.trees import Tree
from tests.case import Case
from tests.plain import all_shapes, texts_up_to, written
from tests.test_keepers import names, random_flags
from tests.wrong import TEXT, check_wrong


def plain_answers(keeper, requests):
    """The kinds of the answers of a twin to these requests."""
    twin = keeper.twin()
    return [twin.request(entry)[0] for entry in requests]


def plain_compare(first, second, most):
    """A plain search by requests for every entry that is or was in a keeper, and for new ones.

    ("alike", pairs of states), or ("parted", the least number of requests, at most `most`).
    """
    waiting = [(first.twin(), second.twin(), 0)]
    # Entries behave by their places alone, so states are told by the places that each entry has.
    seen = {}
    for one, other, length in waiting:
        pairing = tuple(other.slot_of(entry) for entry in one.listed())
        if (one.state(), other.state(), pairing) in seen:
            continue
        seen[(one.state(), other.state(), pairing)] = True
        if length == most:
            return ("deep", None)
        for entry in one.listed() + other.listed() + [f"q{length}"]:
            behind, beside = one.twin(), other.twin()
            if behind.request(entry)[0] != beside.request(entry)[0]:
                return ("parted", length + 1)
            waiting.append((behind, beside, length + 1))
    return ("alike", sorted({(state, other) for state, other, _ in seen}))


def random_keeper(chance, many, entries):
    """A keeper of any kind."""
    order = chance.sample(range(many), many)
    kind = chance.choice(["side", "side", "side", "queue", "recency"])
    if kind == "side":
        tree = Tree(written(chance.choice(all_shapes(many))))
        return SideKeeper(tree, random_flags(chance, many - 1), entries, chance.choice(RULES))
    return (QueueKeeper if kind == "queue" else RecencyKeeper)(entries, order)


class CompareTest(Case):
    def check(self, first, second, most=60):
        before = [(keeper.state(), keeper.listed()) for keeper in (first, second)]
        result = compare(first, second)
        word, right = plain_compare(first, second, most)
        self.exactly(result[0], word)
        if word == "alike":
            self.exactly(result, ("alike", right))
        else:
            requests = result[1]
            self.exactly((type(result), len(result), type(requests), len(requests)), (tuple, 2, list, right))
            answers, others = plain_answers(first, requests), plain_answers(second, requests)
            self.exactly(answers[:-1], others[:-1])
            self.assertNotEqual(answers[-1], others[-1])
            self.exactly(parted_at(first, second, requests), len(requests) - 1)
        self.exactly([(keeper.state(), keeper.listed()) for keeper in (first, second)], before)
        return word

    def test_random_keepers(self):
        chance = random.Random(181)
        words = []
        for number in range(500):
            many = chance.randrange(1, 6)
            entries = names(many)
            others = chance.sample(entries, many)
            words.append(self.check(random_keeper(chance, many, entries), random_keeper(chance, many, others)))
        self.assertGreater(words.count("alike"), 20)
        self.assertGreater(words.count("parted"), 100)

    def test_keepers_that_behave_alike(self):
        chance = random.Random(182)
        for many in (1, 2, 3, 4, 5):
            for kind in (QueueKeeper, RecencyKeeper):
                order, places = chance.sample(range(many), many), chance.sample(range(many), many)
                entries = names(many)
                # The same entries in other slots, in the same order.
                others = [entries[places.index(slot)] for slot in range(many)]
                word = self.check(kind(entries, order), kind(others, [places[slot] for slot in order]))
                self.exactly(word, "alike")
            for text in texts_up_to(many, low=many):
                flags = random_flags(chance, many - 1)
                mirrored = Tree(text).mirrored()
                turned = "".join({"L": "R", "R": "L"}[side] for side in flags[::-1])
                for rule in ("tta", "kts", "tks"):
                    first = SideKeeper(Tree(text), flags, names(many), rule)
                    self.exactly(self.check(first, SideKeeper(mirrored, turned, names(many)[::-1], rule)), "alike")
                for rule, other in (("tts", "tks"), ("kts", "kks")):
                    word = self.check(SideKeeper(Tree(text), flags, names(many), rule),
                                      SideKeeper(Tree(text), flags, names(many), other))
                    self.exactly(word, "alike")

    def test_different_kinds_of_two_slots(self):
        for entries in (["a", "b"], ["b", "a"]):
            for flags in "LR":
                for order in ([0, 1], [1, 0]):
                    side = SideKeeper(Tree("(..)"), flags, ["a", "b"])
                    word = self.check(side, RecencyKeeper(entries, order))
                    self.exactly(word, "alike" if entries[order[0]] == "ab"["RL".index(flags)] else "parted")
                    self.check(SideKeeper(Tree("(..)"), flags, ["a", "b"], "kta"), QueueKeeper(entries, order))

    def test_entries_that_differ_as_sets(self):
        pairs = [(["a", "b"], ["a", "c"]), (["a", "b"], ["c", "d"]), (["a"], ["a", "b"]), (["a", "b", "c"], ["b"]), (["a"], ["b"])]
        for entries, others in pairs:
            first = QueueKeeper(entries, list(range(len(entries))))
            second = RecencyKeeper(others, list(range(len(others))))
            self.exactly(self.check(first, second), "parted")
            word, requests = compare(first, second)
            self.exactly(len(requests), 1)
            self.assertIn(requests[0], set(entries) ^ set(others))

    def test_one_slot(self):
        kinds = [SideKeeper(Tree("."), "", ["a"], rule) for rule in RULES] + [QueueKeeper(["a"], [0]), RecencyKeeper(["a"], [0])]
        for first in kinds:
            for second in kinds:
                self.exactly(compare(first, second), ("alike", [(first.state(), second.state())]))

    def test_written_out(self):
        first = QueueKeeper(["a", "b"], [0, 1])
        self.exactly(compare(first, QueueKeeper(["a", "b"], [0, 1])), ("alike", [("0,1", "0,1"), ("1,0", "1,0")]))
        self.exactly(compare(first, QueueKeeper(["b", "a"], [1, 0])), ("alike", [("0,1", "1,0"), ("1,0", "0,1")]))
        word, requests = compare(first, RecencyKeeper(["a", "b"], [0, 1]))
        self.exactly((word, len(requests), requests[0]), ("parted", 3, "a"))
        # New names that the keepers have already are not new.
        first = QueueKeeper(["n0", "n1", "n2", "n3"], [0, 1, 2, 3])
        self.check(first, QueueKeeper(["n0", "n1", "n2", "n3"], [0, 1, 3, 2]))
        self.check(first, RecencyKeeper(["n3", "n2", "n1", "n0"], [3, 2, 1, 0]))

    def test_six_slots(self):
        entries = names(6)
        table = compare(RecencyKeeper(entries, [0, 1, 2, 3, 4, 5]), RecencyKeeper(entries[::-1], [5, 4, 3, 2, 1, 0]))
        self.exactly([table[0], len(table[1]), table[1] == sorted(table[1])], ["alike", 720, True])
        self.exactly(table[1][0], ("0,1,2,3,4,5", "5,4,3,2,1,0"))
        for text in ("((.(..))(.(..)))", Tree.comb(6).text):
            first = SideKeeper(Tree(text), "LRLRL", entries)
            word, table = compare(first, first.twin())
            self.exactly([word, len(table)], ["alike", 32])
            word, requests = compare(first, QueueKeeper(entries, [3, 1, 4, 0, 5, 2]))
            self.exactly([word, parted_at(first, QueueKeeper(entries, [3, 1, 4, 0, 5, 2]), requests)],
                         ["parted", len(requests) - 1])

    def test_seven_slots(self):
        seven, one = QueueKeeper(names(7), list(range(7))), QueueKeeper(["a"], [0])
        side = SideKeeper(Tree.comb(7), "L" * 6, names(7))
        for first, second in ((seven, seven), (seven, one), (one, seven), (side, one), (one, side), (side, seven)):
            self.refuses(TooMany, (6,), compare, first, second)
        large = RecencyKeeper(names(64), list(range(64)))
        self.refuses(TooMany, (6,), compare, large, large.twin())


class PartedTest(Case):
    def test_random_requests(self):
        chance = random.Random(183)
        found = []
        for number in range(400):
            many = chance.randrange(1, 6)
            first, second = [random_keeper(chance, many, chance.sample(names(many + 1), many)) for _ in range(2)]
            requests = [chance.choice(names(2 * many)) for _ in range(chance.randrange(12))]
            before = [(keeper.state(), keeper.listed()) for keeper in (first, second)]
            answers, others = plain_answers(first, requests), plain_answers(second, requests)
            right = [index for index, kind in enumerate(answers) if kind != others[index]]
            found.append(right[0] if right else None)
            self.exactly(parted_at(first, second, requests), found[-1])
            self.exactly([(keeper.state(), keeper.listed()) for keeper in (first, second)], before)
        self.assertGreater(len(set(found)), 5)

    def test_large_keepers(self):
        first = QueueKeeper(names(64), list(range(64)))
        second = RecencyKeeper(names(64), list(range(64)))
        self.exactly(parted_at(first, second, ["e0", "n0", "e5", "e1", "e0"]), 3)
        self.exactly(parted_at(first, second, ["n0", "n1", "e63"] * 300), None)
        side = SideKeeper(Tree.even(6), "L" * 63, names(64))
        self.exactly(parted_at(side, first, ["n0", "e63"]), 1)
        self.exactly(parted_at(side, side.twin(), ["e3", "n0", "n1"] * 333), None)
        self.exactly(parted_at(first, QueueKeeper(["a"], [0]), ["a"]), 0)
        self.exactly(parted_at(first, first, []), None)
        # The same keeper twice: both are followed on their own.
        self.exactly(parted_at(first, first, ["n0", "n0", "e0"]), None)

    def test_wrong_arguments(self):
        keeper = SideKeeper(Tree(TEXT), "LLL", ["a", "b", "c", "d"])
        check_wrong(self, parted_at, ("any", keeper), ("any", keeper), ("requests", ["a", "x", "a"]))
        # All requests are checked, also those behind the first that parts.
        self.refuses(InvalidEntry, ("A",), parted_at, keeper, QueueKeeper(["x"], [0]), ["a", "x", "A"])
        self.exactly([keeper.state(), keeper.listed()], ["LLL", ["a", "b", "c", "d"]])


class NewListsTest(Case):
    def test_lists_stay_and_are_new(self):
        first, second = QueueKeeper(["a", "b"], [0, 1]), RecencyKeeper(["a", "b"], [0, 1])
        requests = ["a", "x", "b"]
        parted_at(first, second, requests)
        self.exactly(requests, ["a", "x", "b"])
        table = compare(first, first)[1]
        table.clear()
        compare(first, second)[1].clear()
        self.exactly([len(compare(first, first)[1]), len(compare(first, second)[1])], [2, 3])


if __name__ == "__main__":
    unittest.main()
