"""lastside.boards: point 49."""

import random
import unittest

from lastside.boards import Board
from lastside.errors import Contradiction, InvalidClaim, InvalidItem, TooMany
from lastside.trees import Tree
from lastside.verdicts import verdict
from tests.case import Case
from tests.plain import STRANGE, Plain, all_shapes, texts_up_to, written
from tests.sighted import all_claims, histories, is_true, random_trace, seen_trace, small_plains, small_traces
from tests.wrong import NO_CLAIMS, TEXT, TRACE, WRONG, check_wrong


def plain_lot(plain, items, stories):
    """The claims that are true in all of these histories, in the order of point 49."""
    sure = [claim for claim in all_claims(plain, items) if all(is_true(claim, story, rows) for story, rows in stories)]
    return sorted(sure, key=lambda claim: (claim[1], claim))


def bounded(chance, items):
    """The trace with gaps of at most two requests, so that all histories can be tried."""
    return [item if item[0] != "some" else ("some", min(item[1], 1), chance.choice([1, 2])) for item in items]


class LotTest(Case):
    def check(self, board, plain, items, stories):
        lot = plain_lot(plain, items, stories)
        self.exactly(board.lot(), lot)
        for claim in all_claims(plain, items):
            self.exactly(claim in board, claim in lot)

    def test_all_small_traces(self):
        chance = random.Random(221)
        found = [0, 0]
        for plain in small_plains():
            traces = small_traces(plain, 2)
            for items in chance.sample(traces, min(len(traces), 80)):
                stories = histories(plain, items)
                found[len(stories) > 0] += 1
                if stories:
                    self.check(Board(Tree(plain.text), items), plain, items, stories)
                else:
                    self.refuses(Contradiction, (None,), Board, Tree(plain.text), items)
        self.assertTrue(min(found) > 20)

    def test_told_claims(self):
        chance = random.Random(222)
        refused = 0
        for number in range(90):
            plain = Plain(chance.choice(texts_up_to(4, low=2)))
            items = bounded(chance, seen_trace(chance, plain, 4)[0] if number % 3 else random_trace(chance, plain, 3, most=1))
            stories = histories(plain, items, bound=2)
            if not 0 < len(stories) < 3000:
                continue
            board, told = Board(Tree(plain.text), items), []
            for claim in chance.choices(all_claims(plain, items), k=9):
                left = [(story, rows) for story, rows in stories if is_true(claim, story, rows)]
                before = (board.told(), board.lot())
                if left:
                    known = claim in board
                    self.assertIsNone(board.tell(claim))
                    told.append(claim)
                    if known:
                        self.exactly(board.lot(), before[1])
                    stories = left
                else:
                    refused += 1
                    self.refuses(Contradiction, (claim,), board.tell, claim)
                    self.exactly((board.told(), board.lot()), before)
                self.exactly(board.told(), told)
                self.check(board, plain, items, stories)
            # The order of telling does not matter, and neither do the claims that were told at once.
            other = Board(Tree(plain.text), items)
            other.tell(*chance.sample(told, len(told)))
            self.exactly(other.lot(), board.lot())
        self.assertGreater(refused, 30)

    def test_the_order(self):
        tree = Tree(TEXT)
        items = [("flags", "L?R"), ("load", (0, 1)), ("some", 0, 0), ("request", (3,))]
        lot = Board(tree, items).lot()
        self.exactly(lot[:9], [("flag", 0, 0, "L"), ("flag", 0, 1, "R"), ("flag", 0, 2, "R"), ("flag", 1, 0, "L"), ("flag", 1, 1, "R"),
                               ("flag", 1, 2, "R"), ("kind", 1, "load"), ("not slot", 1, 0), ("not slot", 1, 2)])
        self.exactly(lot[9:], [("not slot", 1, 3), ("slot", 1, 1), ("flag", 2, 0, "R"), ("flag", 2, 1, "L"), ("flag", 2, 2, "R"),
                               ("flag", 3, 0, "R"), ("flag", 3, 1, "L"), ("flag", 3, 2, "R"), ("kind", 3, "hit"), ("not slot", 3, 0),
                               ("not slot", 3, 1), ("not slot", 3, 2), ("slot", 3, 3), ("flag", 4, 0, "R"), ("flag", 4, 1, "R"), ("flag", 4, 2, "R")])

    def test_written_out(self):
        tree = Tree("(..)")
        board = Board(tree, [("request", (0, 1)), ("request", (0, 1))])
        self.exactly([board.told(), board.lot()], [[], []])
        board.tell(("kind", 1, "load"), ("slot", 1, 0))
        self.exactly(board.lot(), [("not slot", 0, 0), ("slot", 0, 1), ("flag", 1, 0, "R"), ("kind", 1, "load"), ("not slot", 1, 1),
                                   ("slot", 1, 0), ("flag", 2, 0, "L")])
        self.exactly([("slot", 0, 1) in board, ("slot", 0, 0) in board, ("kind", 0, "hit") in board], [True, False, False])
        board.tell(("kind", 0, "load"))
        self.exactly(("flag", 0, 0, "L") in board, True)
        # A claim that is told twice, and one of the lot: the lot stays.
        lot = board.lot()
        board.tell(("kind", 0, "load"), ("slot", 0, 1))
        self.exactly(board.lot(), lot)
        self.exactly(board.told(), [("kind", 1, "load"), ("slot", 1, 0), ("kind", 0, "load"), ("kind", 0, "load"), ("slot", 0, 1)])
        self.assertIsNone(board.tell())
        self.exactly(len(board.told()), 5)

    def test_edges(self):
        self.exactly(Board(Tree("."), []).lot(), [])
        self.exactly(Board(Tree("."), [("request", (0,)), ("some", 2, None)]).lot(), [("slot", 0, 0)])
        self.exactly(Board(Tree("(..)"), []).lot(), [])
        board = Board(Tree("(..)"), [])
        board.tell(("flag", 0, 0, "R"))
        self.exactly(board.lot(), [("flag", 0, 0, "R")])
        self.refuses(Contradiction, (("flag", 0, 0, "L"),), board.tell, ("flag", 0, 0, "L"))

    def test_large_traces(self):
        chance = random.Random(223)
        for many in (5, 6, 7):
            plain = Plain(written(chance.choice(all_shapes(many))))
            tree = Tree(plain.text)
            items, rows = seen_trace(chance, plain, 60)
            board = Board(tree, items)
            lot = board.lot()
            self.exactly(lot, sorted(lot, key=lambda claim: (claim[1], claim)))
            for claim in chance.sample(all_claims(plain, items), 25):
                self.exactly(claim in board, verdict(tree, items, claim) == "sure")
            truths = [("flag", moment, fork, rows[moment][fork]) for moment in (0, 30, 60) for fork in range(plain.forks)]
            board.tell(*truths)
            self.assertTrue(all(claim in board for claim in truths + lot))


class TellTest(Case):
    def test_several_claims_at_once(self):
        tree = Tree("(..)")
        board = Board(tree, [("request", (0, 1)), ("request", (0, 1)), ("request", (0, 1))])
        wrong = ("kind", 0, "request")
        right = [("slot", 0, 0), ("slot", 1, 1), ("kind", 1, "load"), ("not slot", 2, 0)]
        for at in range(len(right) + 1):
            # The kinds of all claims are looked at first.
            self.refuses(InvalidClaim, (wrong,), board.tell, *right[:at], wrong, *right[at:], None)
            self.refuses(InvalidClaim, (wrong,), board.tell, ("slot", 0, 0), ("slot", 0, 1), wrong)
            # The first claim that cannot be true with those before it.
            late = ("flag", 1, 0, "R")
            if at > 0:
                self.refuses(Contradiction, (late,), board.tell, *right[:at], late, *right[at:], ("slot", 0, 1))
                self.refuses(Contradiction, (("slot", 0, 1),), board.tell, *right[:at], ("slot", 0, 1), late)
            else:
                self.refuses(Contradiction, (("slot", 0, 0),), board.tell, late, *right)
            self.exactly([board.told(), board.lot()], [[], []])
        board.tell(*right)
        self.exactly(board.told(), right)
        self.refuses(Contradiction, (("slot", 2, 0),), board.tell, ("slot", 2, 1), ("slot", 2, 0), ("slot", 2, 1))
        self.exactly(board.told(), right)

    def test_first_contradictions_of_many_claims(self):
        chance = random.Random(224)
        found = []
        for _ in range(60):
            plain = chance.choice(small_plains()[1:])
            items = bounded(chance, random_trace(chance, plain, 3, most=1))
            stories = histories(plain, items, bound=2)
            if not 0 < len(stories) < 2000:
                continue
            claims = chance.choices(all_claims(plain, items), k=chance.randrange(1, 8))
            wrong = None
            for claim in claims:
                stories = [(story, rows) for story, rows in stories if is_true(claim, story, rows)]
                if not stories:
                    wrong = claim
                    break
            board = Board(Tree(plain.text), items)
            found.append(wrong)
            if wrong is None:
                board.tell(*claims)
                self.exactly(board.told(), claims)
            else:
                self.refuses(Contradiction, (wrong,), board.tell, *claims)
                self.exactly(board.told(), [])
        self.assertTrue(5 < found.count(None) < len(found) - 5)

    def test_values_that_are_no_claims(self):
        board = Board(Tree(TEXT), TRACE)
        for value in NO_CLAIMS:
            self.exactly(value in board, False)
            self.refuses(InvalidClaim, (value,), board.tell, value)
            self.refuses(InvalidClaim, (value,), board.tell, ("flag", 0, 0, "L"), value, ("flag", 0, 0, "R"))
        self.exactly(("flag", 0, 0, "L") in board, True)
        self.exactly([("flag", False, 0, "L") in board, ("flag", 0, False, "L") in board, ["flag", 0, 0, "L"] in board], [False] * 3)
        self.exactly(board.told(), [])


class SumTest(Case):
    def test_sums(self):
        tree, items = Tree("(..)"), [("request", (0, 1)), ("request", (0, 1))]
        first, second = Board(tree, items), Board(Tree("(..)"), list(items))
        first.tell(("slot", 0, 0), ("kind", 1, "load"))
        second.tell(("flag", 0, 0, "L"), ("slot", 0, 0))
        total = first + second
        self.exactly(total.told(), [("slot", 0, 0), ("kind", 1, "load"), ("flag", 0, 0, "L"), ("slot", 0, 0)])
        self.exactly((second + first).told(), [("flag", 0, 0, "L"), ("slot", 0, 0), ("slot", 0, 0), ("kind", 1, "load")])
        whole = Board(tree, items)
        whole.tell(*total.told())
        self.exactly([total.lot(), (second + first).lot(), (first + first).lot()], [whole.lot(), whole.lot(), first.lot()])
        self.exactly(("kind", 0, "hit") in total, True)
        # The boards stay, and the sum changes on its own.
        total.tell(("slot", 1, 1))
        self.exactly([len(first.told()), len(second.told()), len(total.told())], [2, 2, 5])
        first.tell(("slot", 1, 1))
        self.exactly([len(first.told()), len(total.told())], [3, 5])
        self.exactly((Board(tree, items) + Board(tree, items)).told(), [])

    def test_contradictions(self):
        tree, items = Tree("(..)"), [("request", (0, 1)), ("request", (0, 1))]
        first, second = Board(tree, items), Board(tree, items)
        first.tell(("slot", 0, 0), ("kind", 0, "hit"))
        second.tell(("kind", 1, "hit"), ("slot", 0, 1), ("slot", 1, 1))
        self.refuses(Contradiction, (("slot", 0, 1),), first.__add__, second)
        self.refuses(Contradiction, (("slot", 0, 0),), second.__add__, first)
        self.exactly([first.told(), second.told()],
                     [[("slot", 0, 0), ("kind", 0, "hit")], [("kind", 1, "hit"), ("slot", 0, 1), ("slot", 1, 1)]])

    def test_boards_of_other_traces(self):
        items = [("request", (0, 1))]
        first = Board(Tree("(..)"), items)
        others = [Board(Tree("((..).)"), items), Board(Tree("(..)"), []), Board(Tree("(..)"), items * 2), Board(Tree("(..)"), [("hit", (0, 1))]),
                  Board(Tree("(..)"), [("request", (0,))])]
        for other in others:
            self.refuses(Contradiction, (None,), first.__add__, other)
            self.refuses(Contradiction, (None,), other.__add__, first)
        self.refuses(Contradiction, (None,), Board(Tree("(.(..))"), []).__add__, Board(Tree("((..).)"), []))

    def test_twins(self):
        board = Board(Tree("(..)"), [("request", (0, 1))])
        board.tell(("slot", 0, 0))
        twin = board.twin()
        self.exactly([type(twin), twin.told(), twin.lot()], [Board, board.told(), board.lot()])
        twin.tell(("kind", 0, "hit"))
        self.exactly([len(twin.told()), len(board.told())], [2, 1])
        board.tell(("kind", 0, "load"))
        self.exactly([twin.told()[1], board.told()[1]], [("kind", 0, "hit"), ("kind", 0, "load")])
        self.refuses(Contradiction, (("kind", 0, "load"),), twin.__add__, board)


class ArgumentsTest(Case):
    def test_wrong_arguments(self):
        check_wrong(self, Board, ("any", Tree(TEXT)), ("items", TRACE))
        self.assertGreater(len(WRONG["items"]), 50)

    def test_sizes_and_traces_without_a_history(self):
        self.exactly(Board(Tree.comb(7), []).lot(), [])
        for items in ([], [("hit", (0,))], [("flags", "L" * 7), ("flags", "R" * 7)]):
            self.refuses(TooMany, (7,), Board, Tree.comb(8), items)
        self.refuses(InvalidItem, (1,), Board, Tree.comb(8), [("flags", "L" * 7), None])
        self.refuses(InvalidItem, (1,), Board, Tree("(..)"), [("flags", "L"), ("flags", "LL"), ("flags", "R")])
        for items in ([("flags", "L"), ("flags", "R")], [("hit", (0,)), ("load", (0,))], [("flags", "L"), ("some", 0, 0), ("flags", "R")]):
            self.refuses(Contradiction, (None,), Board, Tree("(..)"), items)

    def test_lists_are_copied_and_new(self):
        items = [("request", (0, 1))]
        board = Board(Tree("(..)"), items)
        board.tell(("slot", 0, 1))
        lot = board.lot()
        items.append(("flags", "L"))
        items[0] = None
        board.told().clear()
        board.lot().clear()
        self.exactly([board.told(), board.lot(), board.twin().lot()], [[("slot", 0, 1)], lot, lot])
        board.tell(("flag", 1, 0, "R"))
        self.exactly(board.lot(), lot)
        for value in STRANGE:
            self.exactly(value in board, False)


if __name__ == "__main__":
    unittest.main()
