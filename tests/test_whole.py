"""Points 1 to 4 over the whole program: one rule behind all modules, arguments that stay, limits, any values."""

import copy
import importlib
import inspect
import os
import random
import sys
import unittest

from lastside.boards import Board
from lastside.caches import Cache
from lastside.compare import parted_at
from lastside.desks import Desk, replay
from lastside.errors import InvalidNumber
from lastside.faults import count_faults, fewest_faults
from lastside.hidden import arranged, fitting
from lastside.holding import bound_table, is_bound_table
from lastside.keepers import Keeper, QueueKeeper, RecencyKeeper, SideKeeper
from lastside.openings import is_openings, openings
from lastside.origins import loadable, origin_count, origins, rows_of
from lastside.rules import first_wrong_by
from lastside.runs import end_pattern, first_wrong, mended, play
from lastside.tables import fork_table
from lastside.traces import is_history, possible_flags
from lastside.trees import Tree
from lastside.transfer import is_need_table, is_transfer, need_table
from lastside.verdicts import is_paper, verdict
from lastside.weaving import weaving_rank
from tests.case import Case
from tests.plain import STRANGE, Plain, texts_up_to
from tests.test_hidden import groups_of, leaves, plain_trees, text_of
from tests.test_interface import FUNCTIONS
from tests.test_runs import random_run
from tests.wrong import TEXT, TRACE

EVEN = Tree(TEXT)
RUN = [("load", 3), ("hit", 1), ("load", 2), ("load", 0)]
ROWS = ["hl", "l", "h", "l"]
CLAIM = ("slot", 1, 0)
FOUR = ["a", "b", "c", "d"]


def cache():
    return Cache(Tree(TEXT), "LRL", FOUR)


def queue():
    return QueueKeeper(FOUR, [2, 0, 1, 3])


# Right arguments of every function of the interface; the last dict has those that are passed by keyword.
CALLS = {
    "joined": [(EVEN, Tree(".")), {"side": "R"}], "shapes": [(4,)],
    "flags_after": [(EVEN, "L?R", 2)], "victim_of": [(EVEN, "LRL")], "blocking": [(EVEN, "LRL", 0)], "fits": [("LRL", "L??")],
    "mirrored_flags": [("L?R",)], "each_flags": [(EVEN,)], "all_after": [(EVEN, "LRL", [0, 3, 0])],
    "format_run": [(RUN,)], "parse_run": [("h0 l3",)], "format_cache": [(cache(),)], "parse_cache": [("(..) L a,b",)],
    "talk": [(EVEN, RUN, 1)], "first_wrong": [(EVEN, "LRL", RUN)], "wrong_lines": [(EVEN, "LRL", RUN)], "mended": [(EVEN, "LRL", RUN)],
    "end_pattern": [(EVEN, "L??", RUN)], "play": [(EVEN, "LLL", RUN[:2])], "restricted": [(EVEN, RUN, 2)], "collapsed_run": [(EVEN, RUN, 0)],
    "origins": [(EVEN, RUN[:2])], "origin_count": [(EVEN, RUN)], "loadable": [(EVEN, "L??", [0, 3, 1])], "rows_of": [(EVEN, RUN)],
    "least_blocks": [("hl",)], "cut_count": [("hhl", 2)], "each_cut": [("hhhl", 3)], "merges": [(3, 1, 2, 1), {"same": True}],
    "weaving_count": [(EVEN, "LLL", ROWS), {"end": "???"}], "first_weaving": [(EVEN, "LLL", ROWS)], "weaving_at": [(EVEN, "LLL", ROWS, 1)],
    "weaving_rank": [(EVEN, "LLL", RUN[:2])], "each_weaving": [(EVEN, "LLL", ROWS)],
    "openings": [(EVEN, "LLL", ROWS)], "is_openings": [(EVEN, "LLL", ROWS, [(0, "h"), (2, "hl"), (1, "hl")])],
    "told_start": [(EVEN, ROWS)], "told_end": [(EVEN, "LLL", ROWS)],
    "least_requests": [(EVEN, "LLL", "???", [0, 1])], "need_table": [(EVEN, "LLL", "???", [1, 0])],
    "is_need_table": [(EVEN, "LLL", "???", [1, 0], [(0, 2, None, 3, False)])], "is_transfer": [(EVEN, "LLL", "???", [3], [("load", 3)])],
    "plan_count": [(EVEN, "LLL", "???", [0, 1], 5)], "plan_at": [(EVEN, "LLL", "???", [1, 0], 5, 2)],
    "plan_rank": [(EVEN, "LLL", "???", [("load", 3)])], "first_plan": [(EVEN, "LLL", "???", [1, 0])],
    "trails": [(EVEN, "LRL")], "hangs_on": [(EVEN, "LRL", 0)], "needed": [(EVEN, "L?L", "RRL")], "least_hits": [(EVEN, "LRL", "RRL")],
    "least_hits_with": [(EVEN, "LRL", "RRL", 0)], "surely_used": [(EVEN, "LRL", "RRL")], "may_be_used": [(EVEN, "LRL", "RRL", 3)],
    "hit_plan_count": [(EVEN, "LRL", "RLR")], "hit_plan_at": [(EVEN, "LRL", "RLR", 0)], "hit_plan_rank": [(EVEN, "LLL", "RLL", [1])],
    "is_hit_plan": [(EVEN, "LLL", "RLL", [1])],
    "past_count": [(EVEN, "LRL")], "past_at": [(EVEN, "LRL", 1)], "past_rank": [(EVEN, "LRL", [1, 0, 3, 2])], "fits_past": [(EVEN, "LRL", [3, 1, 0, 2])],
    "surely_before": [(EVEN, "LRL", 3, 2)], "oldest_count": [(EVEN, "LRL")],
    "spread_to": [(EVEN, "LRL")], "spread_from": [(EVEN, "LRL")], "greatest_distance": [(EVEN,)],
    "is_sound": [(EVEN, "...")], "marks_after": [(EVEN, "...", 2)], "mark_count": [(EVEN,)], "least_marking": [(EVEN, "...", "LLL")],
    "eviction_number": [(EVEN, "LRL", 0)], "eviction_numbers": [(EVEN, "LRL")], "eviction_plan": [(EVEN, "LLL", 0)], "evictable": [(EVEN, "LRL", 2)],
    "settling_size": [(EVEN,)], "thrashing": [(EVEN,)],
    "hold_rate": [(EVEN, [2, 0])], "hold_cycle": [(EVEN, [2, 0])], "is_hold_cycle": [(EVEN, [2, 0], ("LLL", [("load", 3), ("hit", 2)]))],
    "bound_table": [(EVEN, [2, 0])], "is_bound_table": [(EVEN, [2, 0], [(0, 1, 2, 1, 2)])],
    "most_loads": [(EVEN, "L??", [2, 0], 9)], "most_loads_run": [(EVEN, "L??", [2, 0], 9)], "fewest_to_renew": [(EVEN, "L??", [2, 0], 2)],
    "most_renewed": [(EVEN, "L??", [2, 0], 3)],
    "loads_alone": [(EVEN, "LRL", 7)], "flags_alone": [(EVEN, "LRL", 7)], "slot_alone": [(EVEN, "LRL", 7)], "alone_count": [(EVEN, "LRL", "RLL")],
    "first_wrong_by": [(EVEN, "kta", "LRL", RUN)], "flags_by": [(EVEN, "kta", "LRL", RUN)], "same_rule": [(EVEN, "tts", "tks")],
    "compare": [(queue(), RecencyKeeper(FOUR, [2, 0, 1, 3]))], "parted_at": [(queue(), SideKeeper(EVEN, "LLL", FOUR), ["a", "x", "c", "y"])],
    "signature": [(cache(),)], "groups": [(cache(),)], "alike": [(cache(), cache())],
    "parting_number": [(cache(), Cache(EVEN, "LLL", FOUR))], "queue_order": [(EVEN, "LRL")],
    "possible_flags": [(EVEN, TRACE)], "history": [(EVEN, TRACE)], "is_history": [(EVEN, TRACE, ("LLL", [[], [], [], []]))],
    "verdict": [(EVEN, TRACE, CLAIM)], "judged": [(EVEN, TRACE, CLAIM)], "is_paper": [(EVEN, TRACE, CLAIM, "void", ([["LLL"], [], [], [], []],))],
    "fewest_faults": [(EVEN, TRACE), {"lost": False}], "fault_story": [(EVEN, TRACE)], "fault_table": [(EVEN, TRACE)],
    "count_faults": [(EVEN, TRACE, ("LLL", [("lost", 0, [("hit", 0)])]))], "is_closed_table": [(EVEN, TRACE, [[("LLL", 0)], [], [], [], []])],
    "tree_total": [(9,)], "rank_counts": [(9,)], "each_groups": [(4,)], "fitting": [(4, RUN)], "sure_groups": [(4, RUN)],
    "next_victims": [(4, RUN)], "arranged": [([(1, 3), (1, 3, 9)], [1, 3, 9])],
    "replay": [(cache(), [("serve", ("x", "a")), ("grow", 0, "g")])],
    "search_least": [(EVEN, "LRL", "L??", [1, 0])], "search_hits": [(EVEN, "LRL")], "search_most_loads": [(EVEN, "LRL", [1, 0], 5)],
    "search_weavings": [(EVEN, "LLL", ROWS), {"end": None}], "dearest": [(Tree("((..).)"),)],
    "slot_table": [(cache(),)], "fork_table": [(EVEN, "LRL")],
}


def shown(value):
    """A value with its own objects taken apart, so that values can be compared."""
    if isinstance(value, (list, tuple)):
        return type(value)(shown(part) for part in value)
    if isinstance(value, Cache):
        return ("cache", value.tree.text, value.flags, value.listed())
    if isinstance(value, Tree):
        return ("tree", value.text)
    if isinstance(value, Keeper):
        return ("keeper", value.KIND, value.state(), value.listed())
    return value


def spoil(value):
    """Changes all lists in a value."""
    if isinstance(value, (list, tuple)):
        for part in value:
            spoil(part)
    if isinstance(value, list):
        value.append("spoiled")
        value.reverse()


def lists_in(value):
    """All lists in a value."""
    found = [value] if isinstance(value, list) else []
    for part in value if isinstance(value, (list, tuple)) else []:
        found += lists_in(part)
    return found


class ArgumentsTest(Case):
    def functions(self):
        for name, lines in FUNCTIONS.items():
            for line in lines:
                function = line.partition("(")[0]
                yield getattr(importlib.import_module("lastside." + name), function), CALLS[function]

    def answer(self, function, call):
        """The answer of a call, that of a generator as a list."""
        more = call[1] if len(call) > 1 else {}
        result = function(*call[0], **more)
        return list(result) if inspect.isgeneratorfunction(function) else result

    def test_arguments_stay_and_lists_are_new(self):
        for function, call in self.functions():
            before = copy.deepcopy(shown(call[0]))
            first = self.answer(function, call)
            old = copy.deepcopy(shown(first))
            self.exactly(shown(call[0]), before)
            # No list of the answer is one that was passed, or stands in it twice.
            lists = [id(part) for part in lists_in(first)]
            self.assertEqual(len(set(lists)), len(lists), function)
            self.assertFalse(set(lists) & {id(part) for part in lists_in(list(call[0]))}, function)
            spoil(first)
            self.exactly(shown(call[0]), before)
            self.exactly(shown(self.answer(function, call)), old)
        self.assertEqual(len(CALLS), sum(len(lines) for lines in FUNCTIONS.values()))

    def test_positions_and_keywords(self):
        for function, call in self.functions():
            if len(call) > 1:
                for name, value in call[1].items():
                    with self.assertRaises(TypeError):
                        self.answer(function, (tuple(call[0]) + (value,) * 9,))


class OneRuleTest(Case):
    def test_runs_and_all_that_is_told_of_them(self):
        """A run is valid from flags by all modules or by none."""
        chance = random.Random(281)
        found = [0, 0]
        for text in texts_up_to(5):
            tree, plain = Tree(text), Plain(text)
            entries = [f"e{slot}" for slot in range(plain.slots)]
            for _ in range(12):
                flags = chance.choice(plain.all_flags())
                run = random_run(chance, plain.slots, chance.randrange(5))
                run = mended(tree, flags, run) if chance.random() < 0.6 else run
                behind = plain.outcome(flags, run)
                valid = behind is not None
                found[valid] += 1
                items = [("flags", flags)] + [(kind, (slot,)) for kind, slot in run]
                story = (flags, [[]] + [[line] for line in run])
                self.exactly(first_wrong(tree, flags, run) is None, valid)
                self.exactly(first_wrong_by(tree, "tta", flags, run) is None, valid)
                self.exactly(is_history(tree, items, story), valid)
                self.exactly(possible_flags(tree, items)[-1], [behind] if valid else [])
                self.exactly(fewest_faults(tree, items, lost=False, wrong=False, false=False), 0 if valid else None)
                steps = [("kept", index, lines) for index, lines in enumerate(story[1])]
                self.exactly(count_faults(tree, items, (flags, steps)), 0 if valid else None)
                loaded = sorted({slot for kind, slot in run if kind == "load"})
                once = len(loaded) == len([kind for kind, _ in run if kind == "load"])
                self.exactly(is_transfer(tree, flags, "?" * plain.forks, loaded, run), valid and once)
                indexes = loadable(tree, flags, [slot for _, slot in run])
                self.exactly(all(index in indexes for index, (kind, _) in enumerate(run) if kind == "load"), valid)
                if plain.forks and run:
                    word = verdict(tree, items, ("flag", len(items), 0, behind[0] if valid else "L"))
                    self.exactly(word, "sure" if valid else "void")
                if not valid:
                    continue
                self.exactly([end_pattern(tree, flags, run), play(tree, flags, run)], [behind, behind])
                self.exactly(Board(tree, items).lot()[-plain.forks:] if plain.forks else [],
                             [("flag", len(items), fork, side) for fork, side in enumerate(behind)])
                self.assertGreaterEqual(weaving_rank(tree, flags, run, end=behind), 0)
                # The same run on a cache, on a desk and on a keeper.
                desk, keeper = Desk(Cache(tree, flags, entries)), SideKeeper(tree, flags, entries)
                for number, (kind, slot) in enumerate(run):
                    entry = f"n{number}" if kind == "load" else desk.cache().at(slot)
                    self.exactly(desk.request(entry)[:2], (kind, slot))
                    self.exactly(keeper.request(entry)[:2], (kind, slot))
                self.exactly([desk.lines(), desk.cache().flags, keeper.state()], [run, behind, behind])
                self.exactly(replay(Cache(tree, flags, entries), desk.deeds()) == desk.cache(), True)
        self.assertTrue(min(found) > 30, found)

    def test_origins(self):
        chance = random.Random(282)
        for text in texts_up_to(4):
            tree, plain = Tree(text), Plain(text)
            for _ in range(20):
                run = random_run(chance, plain.slots, 3)
                items = [(kind, (slot,)) for kind, slot in run]
                right = [flags for flags in plain.all_flags() if plain.outcome(flags, run) is not None]
                self.exactly(possible_flags(tree, items)[0], right)
                self.exactly(origin_count(tree, run), len(right))
                if right:
                    self.exactly(plain.fitting(origins(tree, run)), right)

    def test_hidden_trees(self):
        chance = random.Random(283)
        for slots in (2, 3, 4):
            for shape in plain_trees(list(range(slots))):
                tree, order = arranged(groups_of(shape), list(range(slots)))
                self.exactly((tree.text, order), (text_of(shape), leaves(shape)))
                for _ in range(12):
                    run = random_run(chance, slots, 4)
                    valid = origin_count(tree, [(kind, order.index(slot)) for kind, slot in run]) > 0
                    self.exactly(groups_of(shape) in fitting(slots, run), valid)


class LimitsTest(Case):
    """No error is raised because of sizes within the limits of point 4."""

    def test_thousand_lines(self):
        for tree in (Tree("."), Tree(TEXT), Tree.comb(64), Tree.even(6)):
            plain, run = Plain(tree.text), []
            flags = "L" * tree.forks
            for number in range(1000):
                run.append(("load", plain.victim(flags)) if number % 3 else ("hit", number % len(tree)))
                flags = plain.after(flags, run[-1][1])
            start = "L" * tree.forks
            self.exactly([first_wrong(tree, start, run), play(tree, start, run)], [None, flags])
            self.exactly([mended(tree, start, run) == run, first_wrong_by(tree, "tta", start, run)], [True, None])
            self.exactly(sum(len(row) for row in rows_of(tree, run)), 1000)
            self.exactly(len(origins(tree, run)), tree.forks)
            self.assertGreaterEqual(len(loadable(tree, start, [slot for _, slot in run])), 600)

    def test_thousand_requests_and_deeds(self):
        names = [f"e{slot}" for slot in range(64)]
        requests = [f"x{number % 200}" for number in range(1000)]
        first, second = SideKeeper(Tree.comb(64), "L" * 63, names), QueueKeeper(names, list(range(64)))
        self.assertIsNotNone(parted_at(first, second, requests))
        desk = Desk(Cache(Tree.even(6), "L" * 63, names))
        self.exactly([len(desk.serve(*requests)), desk.misses], [1000, 1000])
        self.exactly(len(desk.attempt(*requests)), 1000)
        deeds = [("hit", number % 64) for number in range(999)] + [("serve", tuple(requests))]
        self.exactly(replay(Cache(Tree.even(6), "L" * 63, names), deeds).tree.text, Tree.even(6).text)
        desk.configure(guarded=[f"g{number}" for number in range(1000)])
        self.exactly(len(desk.settings()["guarded"]), 1000)

    def test_thousand_claims(self):
        board = Board(Tree("(..)"), [("request", (0, 1))] * 10)
        board.tell(*[("flag", number % 10 + 1, 0, "LR"[number % 2]) for number in range(1000)])
        self.exactly([len(board.told()), ("slot", 4, 0) in board], [1000, True])

    def test_great_integers(self):
        great = 10 ** 59
        self.exactly(possible_flags(EVEN, [("some", 0, great)])[1], Plain(TEXT).all_flags())
        self.refuses(InvalidNumber, (great,), Desk(cache()).configure, capacity=great)
        tree, slots = arranged([(-great, great)], [-great, great])
        self.exactly((tree.text, slots), ("(..)", [-great, great]))


class OperatorTest(Case):
    """What operators and properties run: no generator is moved on by them."""

    def functions_run_by(self, action):
        """The code objects of the package that run while the action runs."""
        found = []

        def note(frame, event, value):
            if event == "call" and frame.f_code not in found:
                found.append(frame.f_code)

        before = sys.getprofile()
        sys.setprofile(note)
        try:
            action()
        finally:
            sys.setprofile(before)
        return [code for code in found if os.path.basename(os.path.dirname(code.co_filename)) == "lastside"]

    def yielding(self, codes):
        return [code.co_name for code in codes if code.co_flags & inspect.CO_GENERATOR]

    def test_no_generator_runs(self):
        items = [("flags", "L??"), ("some", 0, None), ("request", (0, 1, 3)), ("some", 1, 2), ("load", (2, 3))]
        first, second = Board(EVEN, items), Board(EVEN, items)
        first.tell(("kind", 2, "hit"))
        second.tell(("flag", 3, 0, "R"))
        desk, one, other = Desk(cache()), cache(), cache()
        actions = {
            "board_with": lambda: first + second, "is_claim": lambda: ("kind", 2, "hit") in first,
            "read_forks": lambda: EVEN + EVEN, "__eq__": lambda: EVEN == Tree("(..)"), "__len__": lambda: len(EVEN), "__str__": lambda: str(EVEN),
            "forks": lambda: EVEN.forks, "height": lambda: EVEN.height, "least_depth": lambda: EVEN.least_depth,
            "is_even": lambda: EVEN.is_even, "top": lambda: EVEN.top, "victim": lambda: one.victim, "__contains__": lambda: "a" in one,
            "misses": lambda: desk.misses, "capacity": lambda: desk.capacity,
        }
        for name, action in actions.items():
            with self.subTest(name):
                codes = self.functions_run_by(action)
                self.assertIn(name, [code.co_name for code in codes])
                self.assertEqual(self.yielding(codes), [])
        self.assertEqual(self.yielding(self.functions_run_by(lambda: one == other) + self.functions_run_by(lambda: len(one))), [])
        # The test sees a generator where one runs.
        self.assertEqual(self.yielding(self.functions_run_by(lambda: list(EVEN.walk()))), ["walk"])


class AnyValueTest(Case):
    """Functions that take any value answer for every value, however it is built."""

    VALUES = STRANGE + [[[[[[]]]]], ((((),),),), [None, True, 3, "L", [1], (2,)], ("LLL", [[None]]), ("LLL", [[("hit", 0)]] * 1000),
                        ("LLL", [("kept", 0, None)]), ("LLL", [("kept", 0, [None])]), [[("LLL",)]], [[("LLL", None)]], [[("LLL", 0, 1)]],
                        [[("LLL", 0)], None], [["LLL"], None, [], [], []], [[None], [], [], [], []], ([[]],), ([[], [], [], [], []],),
                        (("LLL", []), [[], [], [], [], []]), [("hit", [0])], [(0, 1, 2, 3, 4)], [(0, "h"), (2, "l"), (1, [])], [[0]] * 5,
                        [10 ** 59] * 4, ["LLL"] * 5, [()] * 5, [("",)] * 5, ([],), ([], []), (None, None), ("L", "L"), [("hit", True)]]

    def test_negative_answers(self):
        for name, call in CALLS.items():
            places = {"is_openings": 3, "is_need_table": 4, "is_hit_plan": 3, "is_sound": 1, "is_hold_cycle": 2, "is_bound_table": 2,
                      "is_history": 2, "is_paper": 4, "count_faults": 2, "is_closed_table": 2}
            if name not in places:
                continue
            function = [getattr(importlib.import_module("lastside." + module), name) for module, lines in FUNCTIONS.items()
                        for line in lines if line.startswith(name + "(")][0]
            for value in self.VALUES:
                arguments = list(call[0])
                arguments[places[name]] = value
                before = copy.deepcopy(value)
                # None of these values is right for these arguments.
                self.exactly(function(*arguments), None if name == "count_faults" else False)
                self.exactly(value, before)
        for value in self.VALUES:
            for word in ("void", "sure", "never", "open", value):
                self.exactly(is_paper(EVEN, TRACE, CLAIM, word, value), False)
            self.exactly(value in Board(EVEN, TRACE), False)

    def test_tables_of_a_tree_without_forks(self):
        one = Tree(".")
        self.exactly([openings(one, "", ["hl"]), need_table(one, "", "", [0]), bound_table(one, []), fork_table(one, "")], [[], [], [], []])
        for value, right in (([], True), ((), False), (None, False), ([()], False)):
            self.exactly([is_openings(one, "", ["hl"], value), is_need_table(one, "", "", [0], value), is_bound_table(one, [], value)], [right] * 3)


if __name__ == "__main__":
    unittest.main()
