"""lastside.keepers: point 40, with points 37 to 39 on which it rests."""

import random
import unittest

from lastside.caches import Cache
from lastside.errors import InvalidEntry, InvalidFlags, InvalidRule, InvalidSlot
from lastside.keepers import Keeper, QueueKeeper, RecencyKeeper, SideKeeper
from lastside.rules import RULES
from lastside.trees import Tree
from tests.case import Case
from tests.plain import Plain, large_texts, texts_up_to
from tests.test_rules import after_by, victim_by
from tests.wrong import NO_ENTRIES, TEXT, WRONG, check_wrong


class PlainSide:
    """A side keeper by the words of points 38 and 39."""

    def __init__(self, plain, rule, flags):
        self.plain, self.rule, self.flags = plain, rule, flags

    def victim(self):
        return victim_by(self.plain, self.rule, self.flags)

    def follow(self, kind, slot):
        self.flags = after_by(self.plain, self.rule, self.flags, kind, slot)

    def state(self):
        return self.flags


class PlainQueue:
    """A queue keeper, or a recency keeper, by the words of point 40: each slot has the time when it was moved."""

    def __init__(self, order, moving):
        self.times, self.moving, self.now = {slot: time for time, slot in enumerate(order)}, moving, len(order)

    def victim(self):
        return min(self.times, key=self.times.get)

    def follow(self, kind, slot):
        self.now += 1
        if kind in self.moving:
            self.times[slot] = self.now

    def state(self):
        return ",".join(str(slot) for slot in sorted(self.times, key=self.times.get))


def names(many):
    return [f"e{slot}" for slot in range(many)]


def random_flags(chance, forks):
    return "".join(chance.choice("LR") for _ in range(forks))


class FollowTest(Case):
    def follow(self, chance, keeper, plain, entries, many):
        """Requests that are answered as the plain model says; twins that were made on the way do not change."""
        old = []
        for number in range(many):
            self.exactly([keeper.state(), keeper.victim_slot(), keeper.listed()],
                         [plain.state(), plain.victim(), entries])
            if chance.random() < 0.2:
                old.append((keeper.twin(), plain.state(), plain.victim(), list(entries)))
                if chance.random() < 0.5:
                    # From here on the twin is followed, and the keeper must stay.
                    twin = keeper.twin()
                    old.append((keeper, plain.state(), plain.victim(), list(entries)))
                    self.assertIs(type(twin), type(keeper))
                    keeper = twin
            if chance.random() < 0.5:
                slot = chance.randrange(len(entries))
                self.exactly(keeper.request(entries[slot]), ("hit", slot, None))
                plain.follow("hit", slot)
            else:
                slot = plain.victim()
                self.exactly(keeper.request(f"n{number}"), ("load", slot, entries[slot]))
                entries[slot] = f"n{number}"
                plain.follow("load", slot)
            self.exactly([keeper.slot_of(entry) for entry in entries], list(range(len(entries))))
            self.exactly(keeper.slot_of("zz"), None)
        for twin, state, victim, listed in old:
            self.exactly([twin.state(), twin.victim_slot(), twin.listed()], [state, victim, listed])

    def test_side_keepers(self):
        chance = random.Random(171)
        for text in texts_up_to(5) + large_texts():
            plain = Plain(text)
            for rule in RULES:
                flags = random_flags(chance, plain.forks)
                entries = names(plain.slots)
                keeper = SideKeeper(Tree(text), flags, entries, rule)
                self.follow(chance, keeper, PlainSide(plain, rule, flags), list(entries), 25)

    def test_queue_and_recency_keepers(self):
        chance = random.Random(172)
        for many in [1, 2, 3, 4, 5, 6, 7, 20, 63, 64] * 4:
            order = chance.sample(range(many), many)
            keeper = QueueKeeper(names(many), order)
            self.follow(chance, keeper, PlainQueue(order, ["load"]), names(many), 3 * many + 5)
            keeper = RecencyKeeper(names(many), order)
            self.follow(chance, keeper, PlainQueue(order, ["hit", "load"]), names(many), 3 * many + 5)

    def test_a_side_keeper_without_a_rule_is_a_cache(self):
        chance = random.Random(173)
        for text in texts_up_to(5):
            tree = Tree(text)
            flags = random_flags(chance, tree.forks)
            cache, keeper = Cache(tree, flags, names(len(tree))), SideKeeper(tree, flags, names(len(tree)))
            for _ in range(30):
                entry = f"e{chance.randrange(2 * len(tree))}"
                self.exactly(keeper.request(entry), cache.request(entry))
                self.exactly([keeper.state(), keeper.listed()], [cache.flags, cache.listed()])
                self.exactly(keeper.victim_slot(), cache.victim)

    def test_written_out(self):
        queue, recency = QueueKeeper(["a", "b", "c"], [2, 0, 1]), RecencyKeeper(["a", "b", "c"], [2, 0, 1])
        self.exactly([queue.state(), recency.state()], ["2,0,1", "2,0,1"])
        self.exactly([queue.request("c"), queue.request("x"), queue.request("b"), queue.state(), queue.listed()],
                     [("hit", 2, None), ("load", 2, "c"), ("hit", 1, None), "0,1,2", ["a", "b", "x"]])
        self.exactly([recency.request("c"), recency.request("x"), recency.request("b"), recency.state(), recency.listed()],
                     [("hit", 2, None), ("load", 0, "a"), ("hit", 1, None), "2,0,1", ["x", "b", "c"]])
        # Loads that keep the flags go to the same slot again.
        keeper = SideKeeper(Tree(TEXT), "LRL", ["a", "b", "c", "d"], "tka")
        self.exactly([keeper.request(entry) for entry in "xyz"], [("load", 1, "b"), ("load", 1, "x"), ("load", 1, "y")])
        self.exactly([keeper.request("a"), keeper.state(), keeper.request("w")], [("hit", 0, None), "LLL", ("load", 3, "d")])

    def test_one_slot(self):
        for keeper in (SideKeeper(Tree("."), "", ["a"]), QueueKeeper(["a"], [0]), RecencyKeeper(["a"], [0])):
            self.exactly([keeper.victim_slot(), keeper.request("a"), keeper.request("b"), keeper.request("a"), keeper.listed()],
                         [0, ("hit", 0, None), ("load", 0, "a"), ("load", 0, "b"), ["a"]])
        self.exactly([SideKeeper(Tree("."), "", ["a"]).state(), QueueKeeper(["a"], [0]).state()], ["", "0"])


class KindsTest(Case):
    def test_kinds_and_bases(self):
        self.exactly([Keeper.KIND, SideKeeper.KIND, QueueKeeper.KIND, RecencyKeeper.KIND], ["none", "side", "queue", "recency"])
        for owner in (Keeper, SideKeeper, QueueKeeper, RecencyKeeper):
            self.assertIn("KIND", vars(owner))
        keepers = [Keeper(["a"]), SideKeeper(Tree("."), "", ["a"]), QueueKeeper(["a"], [0]), RecencyKeeper(["a"], [0])]
        self.exactly([keeper.KIND for keeper in keepers], ["none", "side", "queue", "recency"])
        self.exactly([keeper.twin().KIND for keeper in keepers], ["none", "side", "queue", "recency"])
        self.exactly([isinstance(keeper, Keeper) for keeper in keepers], [True] * 4)
        self.exactly([isinstance(keeper, QueueKeeper) for keeper in keepers], [False, False, True, True])
        self.exactly([SideKeeper.__bases__ == (Keeper,), QueueKeeper.__bases__ == (Keeper,),
                      RecencyKeeper.__bases__ == (QueueKeeper,)], [True] * 3)

    def test_the_base_class_answers_hits(self):
        keeper = Keeper(["a", "b"])
        self.exactly([keeper.state(), keeper.request("b"), keeper.request("a"), keeper.listed(), keeper.state()],
                     ["", ("hit", 1, None), ("hit", 0, None), ["a", "b"], ""])
        twin = keeper.twin()
        self.assertIs(type(twin), Keeper)
        self.exactly([twin.slot_of("b"), twin.slot_of("c"), twin.request("b")], [1, None, ("hit", 1, None)])


class ArgumentsTest(Case):
    def test_wrong_arguments(self):
        tree = Tree(TEXT)
        four = ["a", "b", "c", "d"]
        check_wrong(self, Keeper, ("held", four))
        check_wrong(self, SideKeeper, ("any", tree), ("flags", "LLL"), ("entries", four), ("rule", "tts"))
        for kind in (QueueKeeper, RecencyKeeper):
            check_wrong(self, kind, ("held", four), ("order", [3, 1, 0, 2]))
            self.refuses(InvalidSlot, (1,), kind, ["a"], [1])
            self.refuses(InvalidSlot, ([],), kind, ["a"], [])
            self.refuses(InvalidSlot, ([0, 2],), kind, ["a", "b", "c"], [0, 2])
            self.refuses(InvalidSlot, (64,), kind, names(64), list(range(1, 65)))
        self.refuses(InvalidFlags, ("L?L",), SideKeeper, tree, "L?L", four)
        self.refuses(InvalidRule, (None,), SideKeeper, Tree("."), "", ["a"], None)
        self.refuses(InvalidRule, ("",), SideKeeper, tree, "LLL", four, "")

    def test_sizes(self):
        for kind, more in ((Keeper, []), (QueueKeeper, [list(range(64))]), (RecencyKeeper, [list(range(64))])):
            self.exactly(kind(names(64), *more).listed(), names(64))
            self.refuses(InvalidEntry, (names(65),), kind, names(65), *more)
            self.refuses(InvalidEntry, ([],), kind, [], *more)

    def test_requests_that_are_refused_change_nothing(self):
        keepers = [Keeper(["a", "b"]), SideKeeper(Tree("(..)"), "L", ["a", "b"]), QueueKeeper(["a", "b"], [1, 0]),
                   RecencyKeeper(["a", "b"], [1, 0])]
        for keeper in keepers:
            before = (keeper.state(), keeper.listed())
            for value, error, values in WRONG["entry"]:
                self.refuses(error, values, keeper.request, value)
                self.refuses(error, values, keeper.slot_of, value)
            self.exactly((keeper.state(), keeper.listed()), before)
        self.assertGreater(len(NO_ENTRIES), 20)

    def test_lists_are_copied_and_new(self):
        entries, order = ["a", "b", "c"], [2, 1, 0]
        for keeper in (Keeper(entries), SideKeeper(Tree("((..).)"), "LL", entries), QueueKeeper(entries, order),
                       RecencyKeeper(entries, order)):
            state = keeper.state()
            listed = keeper.listed()
            listed.clear()
            self.exactly([keeper.listed(), entries, order], [["a", "b", "c"], ["a", "b", "c"], [2, 1, 0]])
            keeper.request("b")
            self.exactly([entries, order], [["a", "b", "c"], [2, 1, 0]])
            if keeper.KIND != "none":
                keeper.request("x")
            self.exactly([entries, order], [["a", "b", "c"], [2, 1, 0]])
            self.assertIsInstance(state, str)
        queue = QueueKeeper(entries, order)
        entries.append("d")
        order.reverse()
        self.exactly([queue.listed(), queue.state()], [["a", "b", "c"], "2,1,0"])


if __name__ == "__main__":
    unittest.main()
