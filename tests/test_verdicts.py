"""lastside.verdicts: points 47 and 48."""

import itertools
import random
import unittest

from lastside.errors import InvalidClaim, InvalidItem, TooMany
from lastside.traces import is_history
from lastside.trees import Tree
from lastside.verdicts import is_paper, judged, verdict
from tests.case import Case, alike
from tests.plain import STRANGE, Plain, all_shapes, texts_up_to, written
from tests.sighted import all_claims, flags_by_moment, histories, is_plain_closed, is_true, random_trace, seen_trace
from tests.sighted import small_plains, small_traces
from tests.wrong import TEXT, TRACE, check_wrong, variations

WORDS = ("void", "sure", "never", "open")


def plain_verdict(stories, claim):
    """The verdict by all histories."""
    truths = {is_true(claim, story, rows) for story, rows in stories}
    return {(): "void", (True,): "sure", (False,): "never", (False, True): "open"}[tuple(sorted(truths))]


def is_plain_paper(plain, items, claim, word, paper, stories):
    """Whether a well-formed value is a paper, by the words of point 48; `stories` are all histories."""
    tree = Tree(plain.text)

    def is_story(value, truth):
        if not is_history(tree, items, value):
            return False
        rows = [value[0]]
        for run in value[1]:
            rows.append(plain.outcome(rows[-1], run))
        return is_true(claim, value, rows) == truth

    if word == "void":
        return len(paper) == 1 and is_plain_closed(plain, items, None, True, paper[0])
    if len(paper) != 2:
        return False
    if word == "open":
        return is_story(paper[0], True) and is_story(paper[1], False)
    return is_story(paper[0], word == "sure") and is_plain_closed(plain, items, claim, word == "never", paper[1])


class VerdictTest(Case):
    def check(self, plain, items, claim, right):
        """The verdict, and papers for it and for no other one."""
        tree = Tree(plain.text)
        self.exactly(verdict(tree, items, claim), right)
        result = judged(tree, items, claim)
        self.exactly((type(result), len(result), result[0], type(result[1])), (tuple, 2, right, tuple))
        for word in WORDS:
            self.exactly(is_paper(tree, items, claim, word, result[1]), word == right)
        return result[1]

    def test_all_small_traces(self):
        chance = random.Random(211)
        words = []
        for plain in small_plains():
            traces = small_traces(plain, 2)
            for items in chance.sample(traces, min(len(traces), 60)):
                stories = histories(plain, items)
                for claim in all_claims(plain, items):
                    right = plain_verdict(stories, claim)
                    words.append(right)
                    paper = self.check(plain, items, claim, right)
                    self.assertTrue(is_plain_paper(plain, items, claim, right, paper, stories))
        self.assertTrue(all(words.count(word) > 50 for word in WORDS))

    def test_random_traces(self):
        chance = random.Random(212)
        words = []
        for number in range(120):
            plain = Plain(chance.choice(texts_up_to(4)))
            if number % 2:
                items = seen_trace(chance, plain, 3)[0]
            else:
                items = random_trace(chance, plain, chance.randrange(1, 5), most=1)
            # Two requests reach all flags of these trees from all others, or show that no more are allowed.
            items = [item if item[0] != "some" else ("some", min(item[1], 1), chance.choice([1, 2])) for item in items]
            stories = histories(plain, items, bound=2)
            if len(stories) > 4000:
                continue
            for claim in chance.sample(all_claims(plain, items), min(8, len(all_claims(plain, items)))):
                right = plain_verdict(stories, claim)
                words.append(right)
                self.check(plain, items, claim, right)
        self.assertTrue(all(words.count(word) > 20 for word in WORDS), [words.count(word) for word in WORDS])

    def test_flags_of_larger_trees(self):
        chance = random.Random(213)
        words = []
        for many in (5, 6, 7):
            for shape in chance.sample(all_shapes(many), 4):
                plain = Plain(written(shape))
                items = [item if item[0] != "some" else ("some", 0, 1) for item in seen_trace(chance, plain, 6)[0]]
                rows = flags_by_moment(plain, items)
                for claim in chance.sample([claim for claim in all_claims(plain, items) if claim[0] == "flag"], 12):
                    sides = {flags[claim[2]] for flags in rows[claim[1]]}
                    right = "open" if len(sides) == 2 else "sure" if sides == {claim[3]} else "never"
                    words.append(right)
                    self.check(plain, items, claim, right)
        self.assertTrue(all(words.count(word) > 5 for word in WORDS[1:]))

    def test_all_four(self):
        tree = Tree("(..)")
        items = [("flags", "L"), ("request", (0, 1)), ("load", (0, 1))]
        told = {("flag", 0, 0, "L"): "sure", ("flag", 0, 0, "R"): "never", ("flag", 1, 0, "L"): "sure", ("flag", 2, 0, "L"): "open",
                ("flag", 3, 0, "R"): "open", ("kind", 1, "hit"): "open", ("kind", 2, "load"): "sure", ("kind", 2, "hit"): "never",
                ("slot", 1, 0): "open", ("not slot", 1, 0): "open", ("slot", 2, 1): "open"}
        for claim, word in told.items():
            self.exactly(verdict(tree, items, claim), word)
            self.exactly(verdict(tree, items + [("flags", "?"), ("some", 0, 0), ("load", (0, 1))], claim), word)
            self.exactly(verdict(tree, items + [("flags", "L"), ("flags", "R")], claim), "void")
        # A load in slot 0 shows that the flag was R.
        self.exactly(verdict(tree, [("request", (0, 1)), ("load", (0,))], ("slot", 0, 1)), "sure")
        self.exactly(verdict(tree, [("request", (0, 1)), ("load", (0,))], ("flag", 1, 0, "R")), "sure")
        self.exactly(verdict(tree, [("request", (0, 1)), ("load", (0,))], ("flag", 0, 0, "R")), "open")
        # A slot that does not stand in the item.
        self.exactly([verdict(tree, [("hit", (0,))], claim) for claim in (("slot", 0, 1), ("not slot", 0, 1), ("not slot", 0, 0))],
                     ["never", "sure", "never"])

    def test_one_slot(self):
        items = [("request", (0,)), ("load", (0,))]
        claims = [("kind", 0, "hit"), ("kind", 0, "load"), ("kind", 1, "load"), ("kind", 1, "hit"), ("slot", 0, 0), ("not slot", 1, 0)]
        self.exactly([verdict(Tree("."), items, claim) for claim in claims], ["open", "open", "sure", "never", "sure", "never"])
        self.refuses(InvalidClaim, (("flag", 0, 0, "L"),), verdict, Tree("."), items, ("flag", 0, 0, "L"))

    def test_the_empty_trace(self):
        for side in "LR":
            self.exactly(verdict(Tree(TEXT), [], ("flag", 0, 2, side)), "open")
        self.refuses(InvalidClaim, (("flag", 1, 2, "L"),), verdict, Tree(TEXT), [], ("flag", 1, 2, "L"))
        self.refuses(InvalidClaim, (("kind", 0, "hit"),), verdict, Tree(TEXT), [], ("kind", 0, "hit"))

    def test_sixty_items(self):
        tree = Tree("(((..)(..))(.(..)))")
        items = [("load", (0, 1, 2, 3, 4, 5, 6)), ("request", (2, 4)), ("some", 1, 3)] * 20
        for claim, word in ((("flag", 60, 3, "L"), "open"), (("flag", 2, 4, "R"), "open"), (("kind", 57, "load"), "sure"),
                            (("slot", 58, 3), "never"), (("not slot", 58, 3), "sure"), (("flag", 0, 5, "L"), "open")):
            self.exactly(verdict(tree, items, claim), word)
            self.exactly(is_paper(tree, items, claim, *judged(tree, items, claim)), True)


class PaperTest(Case):
    def test_papers_with_one_thing_changed(self):
        tree, plain = Tree("(..)"), Plain("(..)")
        items = [("flags", "L"), ("request", (0, 1)), ("load", (0, 1))]
        for more in ([], [("flags", "L"), ("flags", "R")]):
            trace = items + more
            stories = histories(plain, trace)
            for claim in (("flag", 1, 0, "L"), ("flag", 1, 0, "R"), ("flag", 2, 0, "L"), ("kind", 2, "load"), ("kind", 2, "hit"),
                          ("kind", 1, "hit"), ("slot", 1, 1), ("not slot", 1, 1)):
                word, paper = judged(tree, trace, claim)
                accepted = 0
                for value in variations(paper) + STRANGE + [list(paper), paper + (paper[0],), paper[::-1], paper[:1]]:
                    right = self.well_formed(plain, trace, word, value)
                    right = right and is_plain_paper(plain, trace, claim, word, value, stories)
                    accepted += right
                    self.assertIs(is_paper(tree, trace, claim, word, value), right, (word, value))
                    for other in WORDS:
                        if other != word:
                            self.exactly(is_paper(tree, trace, claim, other, value), False)
                self.assertLess(accepted, 8)

    def well_formed(self, plain, items, word, value):
        """A tuple of histories and lists of lists of flags, as the word asks for."""
        if type(value) is not tuple:
            return False

        def is_list(part):
            return type(part) is list and all(type(row) is list and all(flags in plain.all_flags() for flags in row) for row in part)

        stories, lists = {"void": (0, 1), "open": (2, 0)}.get(word, (1, 1))
        if len(value) != stories + lists:
            return False
        tree = Tree(plain.text)
        return all(is_history(tree, items, part) for part in value[:stories]) and all(is_list(part) for part in value[stories:])

    def test_further_flags(self):
        tree = Tree("(..)")
        items = [("flags", "L"), ("load", (0, 1)), ("flags", "L")]
        claim = ("flag", 0, 0, "L")
        self.exactly(judged(tree, items, claim), ("void", ([["L", "R"], ["L"], ["R"], []],)))
        right = [[["L", "R"], ["L"], ["R"], []]]
        wrong = [[["R", "L"], ["L"], ["R"], []], [["L", "R"], ["L"], [], []], [["L"], ["L"], ["R"], []], [["L", "R"], [], ["R"], []],
                 [["L", "R"], ["L"], ["R"], ["L"]], [["L", "R"], ["L"], ["R"]], [["L", "R"], ["L"], ["R"], [], []],
                 [["L", "R", "R"], ["L"], ["R"], []], [["L", "L", "R"], ["L"], ["R"], []], [["L", "R"], ["L"], ("R",), []],
                 [["L", "R"], ["L"], ["R"], ()], (["L", "R"], ["L"], ["R"], []), [["L", "R"], ["L"], "R", []], [["L", "R"], ["?"], ["R"], []],
                 # R after the flags item leads to L behind the load and so to an end that is not empty.
                 [["L", "R"], ["L", "R"], ["L", "R"], []], [["L", "R"], ["L", "R"], ["R"], []]]
        for value in right + wrong:
            self.exactly(is_paper(tree, items, claim, "void", (value,)), value in right)
        # A closed list for a claim about flags: further flags are followed, also those that are not allowed.
        items = [("some", 0, 0), ("flags", "L"), ("flags", "?")]
        claim = ("flag", 1, 0, "L")
        word, (story, closed) = judged(tree, items, claim)
        self.exactly((word, closed), ("sure", [["L", "R"], ["R"], [], []]))
        for value, truth in (([["L", "R"], ["R"], [], []], True), ([["L", "R"], ["L", "R"], [], []], False),
                             ([["L", "R"], ["L", "R"], ["L"], []], False), ([["L", "R"], ["R"], ["R"], []], False),
                             ([["L", "R"], [], [], []], False), ([["L", "R"], ["L"], [], []], False)):
            self.exactly(is_paper(tree, items, claim, "sure", (story, value)), truth)
        # Further flags that lead nowhere do no harm.
        items = [("flags", "R"), ("flags", "L"), ("flags", "R")]
        for value, truth in (([["L", "R"], ["R"], [], []], True), ([["L", "R"], ["R"], ["L"], []], True),
                             ([["L", "R"], ["R"], ["R"], []], False), ([["L", "R"], ["L", "R"], ["L"], []], True),
                             ([["L", "R"], ["L", "R"], [], []], False)):
            self.exactly(is_paper(tree, items, ("flag", 0, 0, "L"), "void", (value,)), truth)

    def test_further_flags_of_claims_about_the_first_moment(self):
        tree, items = Tree("(..)"), [("flags", "L"), ("flags", "L")]
        word, (story, closed) = judged(tree, items, ("flag", 0, 0, "L"))
        self.exactly((word, story, closed), ("sure", ("L", [[], []]), [["R"], [], []]))
        self.exactly([is_paper(tree, items, ("flag", 0, 0, "L"), "sure", (story, value)) for value in
                      ([["R"], [], []], [["L", "R"], [], []], [["L", "R"], ["L"], []], [["R"], ["R"], []], [["R"], ["L"], []])],
                     [True, False, False, True, False])

    def test_all_closed_lists(self):
        rows = [["L", "R"], ["L"], ["R"], [], ["R", "L"], ["L", "L"]]
        tree, plain = Tree("(..)"), Plain("(..)")
        found = 0
        for items, claim in (([("flags", "L"), ("load", (1,))], ("flag", 2, 0, "R")), ([("load", (0, 1)), ("request", (1,))], ("slot", 1, 1)),
                             ([("load", (0,)), ("request", (0, 1))], ("flag", 1, 0, "L")), ([("hit", (0,)), ("load", (0,))], ("flag", 0, 0, "L")),
                             ([("load", (0,)), ("request", (0,))], ("kind", 1, "load")), ([("request", (0,)), ("load", (1,))], ("slot", 1, 0))):
            word, paper = judged(tree, items, claim)
            for value in itertools.product(rows, repeat=3):
                changed = paper[:-1] + (list(value),)
                right = is_plain_closed(plain, items, None if word == "void" else claim, word == "never", list(value))
                found += right
                self.exactly(is_paper(tree, items, claim, word, changed), right)
        self.assertGreater(found, 6)

    def test_words_of_any_kind(self):
        tree, claim = Tree(TEXT), ("slot", 1, 0)
        word, paper = judged(tree, TRACE, claim)
        self.exactly(word, "open")
        for value in STRANGE + ["Open", "open ", ["open"], ("open",), "sure", "void", "never", 3]:
            self.exactly(is_paper(tree, TRACE, claim, value, paper), False)
        self.exactly([is_paper(tree, TRACE, claim, "open", paper), is_paper(tree, TRACE, claim, "open", paper[::-1])], [True, False])
        self.assertFalse(alike(paper[0], paper[1]))
        for items, claim, right in ((TRACE, ("flag", 0, 0, "L"), "sure"), (TRACE, ("flag", 0, 0, "R"), "never"),
                                    (TRACE + [("flags", "LLL"), ("flags", "RRR")], ("flag", 0, 0, "R"), "void")):
            word, paper = judged(tree, items, claim)
            self.exactly(word, right)
            self.exactly(is_paper(tree, items, claim, word, paper), True)
            for value in STRANGE + ["Never", "never ", "Sure", "Void", ["never"], ("sure",), 3]:
                self.exactly(is_paper(tree, items, claim, value, paper), False)


class ArgumentsTest(Case):
    def test_wrong_arguments(self):
        tree = Tree(TEXT)
        items, claim = ("items", TRACE), ("claim", ("flag", 4, 2, "R"))
        check_wrong(self, verdict, ("any", tree), items, claim)
        check_wrong(self, judged, ("any", tree), items, claim)
        check_wrong(self, is_paper, ("any", tree), items, claim, ("any", "sure"), ("any", None))

    def test_claims_that_are_right(self):
        for claim in all_claims(Plain(TEXT), TRACE):
            self.assertIn(verdict(Tree(TEXT), TRACE, claim), WORDS)

    def test_seven_and_eight_slots(self):
        self.exactly(verdict(Tree.comb(7), [("load", (0, 6))], ("flag", 0, 5, "L")), "open")
        tree, items, claim = Tree.comb(8), [("load", (0, 7))], ("slot", 0, 7)
        for function, more in ((verdict, []), (judged, []), (is_paper, ["sure", None]), (is_paper, [None, None])):
            self.refuses(TooMany, (7,), function, tree, items, claim, *more)
            self.refuses(InvalidItem, (0,), function, tree, [("load", (0, 8))], None, *more)
            self.refuses(InvalidClaim, (("slot", 0, 8),), function, tree, items, ("slot", 0, 8), *more)

    def test_lists_stay_and_are_new(self):
        tree, items = Tree("(..)"), [("flags", "L"), ("load", (0, 1))]
        word, paper = judged(tree, items, ("slot", 1, 1))
        old = (word, ((paper[0][0], [list(run) for run in paper[0][1]]), [list(row) for row in paper[1]]))
        self.exactly(is_paper(tree, items, ("slot", 1, 1), word, paper), True)
        self.exactly([(word, paper), items], [old, [("flags", "L"), ("load", (0, 1))]])
        paper[0][1].clear()
        paper[1][0].clear()
        paper[1].clear()
        self.exactly(judged(tree, items, ("slot", 1, 1)), old)


if __name__ == "__main__":
    unittest.main()
