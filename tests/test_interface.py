"""The interface: names, parameters, and where each of them is defined."""

import ast
import importlib
import inspect
import os
import unittest

FOLDER = os.path.join(os.path.dirname(os.path.dirname(os.path.abspath(__file__))), "lastside")

FUNCTIONS = {
    "trees": ["joined(*trees, side='L')", "shapes(slots)"],
    "flags": ["flags_after(tree, flags, slot)", "victim_of(tree, flags)", "blocking(tree, flags, slot)",
              "fits(flags, pattern)", "mirrored_flags(pattern)", "each_flags(tree)", "all_after(tree, flags, slots)"],
    "notation": ["format_run(run)", "parse_run(text)", "format_cache(cache)", "parse_cache(text)"],
    "runs": ["talk(tree, run, fork)", "first_wrong(tree, start, run)", "wrong_lines(tree, start, run)",
             "mended(tree, start, run)", "end_pattern(tree, start, run)", "play(tree, start, run)",
             "restricted(tree, run, fork)", "collapsed_run(tree, run, fork)"],
    "origins": ["origins(tree, run)", "origin_count(tree, run)", "loadable(tree, start, slots)", "rows_of(tree, run)"],
    "blocks": ["least_blocks(row)", "cut_count(row, blocks)", "each_cut(row, blocks)",
               "merges(length, least, other_length, other_least, *, same)"],
    "weaving": ["weaving_count(tree, start, rows, *, end=None)", "first_weaving(tree, start, rows, *, end=None)",
                "weaving_at(tree, start, rows, rank, *, end=None)", "weaving_rank(tree, start, run, *, end=None)",
                "each_weaving(tree, start, rows, *, end=None)"],
    "openings": ["openings(tree, start, rows, *, end=None)", "is_openings(tree, start, rows, table, *, end=None)",
                 "told_start(tree, rows)", "told_end(tree, start, rows)"],
    "transfer": ["least_requests(tree, start, end, renewed)", "need_table(tree, start, end, renewed)",
                 "is_need_table(tree, start, end, renewed, table)", "is_transfer(tree, start, end, renewed, run)"],
    "plans": ["plan_count(tree, start, end, renewed, length)", "plan_at(tree, start, end, renewed, length, rank)",
              "plan_rank(tree, start, end, run)", "first_plan(tree, start, end, renewed)"],
    "trails": ["trails(tree, flags)", "hangs_on(tree, flags, slot)", "needed(tree, start, end)",
               "least_hits(tree, start, end)", "least_hits_with(tree, start, end, slot)",
               "surely_used(tree, start, end)", "may_be_used(tree, start, end, length)"],
    "hitplans": ["hit_plan_count(tree, start, end)", "hit_plan_at(tree, start, end, rank)",
                 "hit_plan_rank(tree, start, end, slots)", "is_hit_plan(tree, start, end, slots)"],
    "past": ["past_count(tree, flags)", "past_at(tree, flags, rank)", "past_rank(tree, flags, order)",
             "fits_past(tree, flags, order)", "surely_before(tree, flags, slot, other)", "oldest_count(tree, flags)"],
    "spread": ["spread_to(tree, flags)", "spread_from(tree, flags)", "greatest_distance(tree)"],
    "marks": ["is_sound(tree, marks)", "marks_after(tree, marks, slot)", "mark_count(tree)",
              "least_marking(tree, start, end)"],
    "staying": ["eviction_number(tree, flags, slot)", "eviction_numbers(tree, flags)", "eviction_plan(tree, flags, slot)",
                "evictable(tree, flags, count)", "settling_size(tree)", "thrashing(tree)"],
    "holding": ["hold_rate(tree, kept)", "hold_cycle(tree, kept)", "is_hold_cycle(tree, kept, cycle)",
                "bound_table(tree, kept)", "is_bound_table(tree, kept, table)"],
    "mostloads": ["most_loads(tree, start, kept, length)", "most_loads_run(tree, start, kept, length)",
                  "fewest_to_renew(tree, start, kept, count)", "most_renewed(tree, start, kept, length)"],
    "alone": ["loads_alone(tree, flags, count)", "flags_alone(tree, flags, count)", "slot_alone(tree, flags, index)",
              "alone_count(tree, start, end)"],
    "rules": ["first_wrong_by(tree, rule, flags, run)", "flags_by(tree, rule, flags, run)",
              "same_rule(tree, rule, other)"],
    "compare": ["compare(first, second)", "parted_at(first, second, requests)"],
    "alike": ["signature(cache)", "groups(cache)", "alike(first, second)", "parting_number(first, second)",
              "queue_order(tree, flags)"],
    "traces": ["possible_flags(tree, items)", "history(tree, items)", "is_history(tree, items, story)"],
    "verdicts": ["verdict(tree, items, claim)", "judged(tree, items, claim)",
                 "is_paper(tree, items, claim, word, paper)"],
    "faults": ["fewest_faults(tree, items, *, wrong=True, false=True, lost=True)",
               "fault_story(tree, items, *, wrong=True, false=True, lost=True)", "count_faults(tree, items, story)",
               "fault_table(tree, items, *, wrong=True, false=True, lost=True)",
               "is_closed_table(tree, items, table, *, wrong=True, false=True, lost=True)"],
    "hidden": ["tree_total(slots)", "rank_counts(slots)", "each_groups(slots)", "fitting(slots, run)",
               "sure_groups(slots, run)", "next_victims(slots, run)", "arranged(groups, labels)"],
    "desks": ["replay(cache, deeds)"],
    "searching": ["search_least(tree, flags, end, renewed)", "search_hits(tree, flags)",
                  "search_most_loads(tree, flags, kept, length)", "search_weavings(tree, start, rows, *, end=None)",
                  "dearest(tree)"],
    "tables": ["slot_table(cache)", "fork_table(tree, flags)"],
}
METHODS = {
    ("trees", "Tree"): [
        "__init__(self, text)", "__str__(self)", "__len__(self)", "__eq__(self, other)", "__add__(self, other)",
        "sides(self, fork)", "path(self, slot)", "depth(self, slot)", "span(self, fork)", "walk(self, *, last=False)",
        "subtree(self, fork)", "collapsed(self, fork)", "mirrored(self)", "grown(self, slot)", "closed(self, slot)",
        "even(cls, height)", "comb(cls, slots, *, side='R')"],
    ("caches", "Cache"): [
        "__init__(self, tree, flags, entries)", "__len__(self)", "__eq__(self, other)", "__contains__(self, entry)",
        "listed(self)", "at(self, slot)", "slot_of(self, entry)", "request(self, entry)", "hit(self, slot)",
        "twin(self)", "fresh(cls, tree)"],
    ("keepers", "Keeper"): ["__init__(self, entries)", "listed(self)", "slot_of(self, entry)", "request(self, entry)",
                            "state(self)", "victim_slot(self)", "twin(self)"],
    ("keepers", "SideKeeper"): ["__init__(self, tree, flags, entries, rule='tta')", "state(self)", "victim_slot(self)",
                                "twin(self)"],
    ("keepers", "QueueKeeper"): ["__init__(self, entries, order)", "state(self)", "victim_slot(self)", "twin(self)"],
    ("keepers", "RecencyKeeper"): ["__init__(self, entries, order)", "state(self)", "victim_slot(self)", "twin(self)"],
    ("boards", "Board"): ["__init__(self, tree, items)", "tell(self, *claims)", "told(self)", "lot(self)",
                          "__contains__(self, claim)", "__add__(self, other)", "twin(self)"],
    ("desks", "Desk"): ["__init__(self, cache)", "request(self, entry)", "hit(self, slot)", "serve(self, *entries)",
                        "attempt(self, *entries)", "grow(self, slot, entry)", "close(self, slot)", "undo(self, count=1)",
                        "redo(self, count=1)", "cache(self)", "deeds(self)", "base(self)", "lines(self)", "branch(self)",
                        "configure(self, **settings)", "settings(self)"],
}
PROPERTIES = {("trees", "Tree"): ["forks", "height", "least_depth", "is_even", "top"], ("caches", "Cache"): ["victim"],
              ("desks", "Desk"): ["misses", "capacity"]}
SETTERS = {("desks", "Desk"): ["capacity"]}
GENERATORS = {"shapes", "walk", "each_flags", "each_cut", "each_weaving", "each_groups"}


def module(name):
    return importlib.import_module("lastside." + name)


class InterfaceTest(unittest.TestCase):
    def test_functions(self):
        for name, lines in FUNCTIONS.items():
            for line in lines:
                function = getattr(module(name), line.partition("(")[0])
                self.assertEqual(function.__name__ + str(inspect.signature(function)), line)
                self.assertEqual(function.__module__, "lastside." + name)
                self.assertEqual(inspect.isgeneratorfunction(function), function.__name__ in GENERATORS, line)

    def test_methods(self):
        for (name, owner), lines in METHODS.items():
            for line in lines:
                method = vars(getattr(module(name), owner))[line.partition("(")[0]]
                method = getattr(method, "__func__", method)
                self.assertEqual(method.__name__ + str(inspect.signature(method)), line)
                self.assertEqual(inspect.isgeneratorfunction(method), method.__name__ in GENERATORS, line)

    def test_properties(self):
        for (name, owner), names in PROPERTIES.items():
            for one in names:
                found = vars(getattr(module(name), owner))[one]
                self.assertIsInstance(found, property)
                self.assertEqual(found.fset is not None, one in SETTERS.get((name, owner), []))

    def test_all_headings_of_the_interface(self):
        """The files that have something to import, and the names that are not functions or methods."""
        headings = set("""errors trees flags caches notation runs origins blocks weaving openings transfer plans trails
            hitplans past spread marks staying holding mostloads alone rules keepers compare alike traces verdicts boards
            faults hidden desks searching tables""".split())
        self.assertEqual(set(FUNCTIONS) | {name for name, _ in METHODS} | {"errors"}, headings)
        self.assertEqual(module("trees").Tree.MOST, 64)
        self.assertEqual(module("rules").RULES, ("tta", "tts", "tka", "tks", "kta", "kts", "kka", "kks"))

    def test_all_stand_in_their_own_file(self):
        for name in sorted(set(FUNCTIONS) | {file for file, _ in METHODS}):
            with open(os.path.join(FOLDER, name + ".py"), encoding="utf-8") as file:
                body = ast.parse(file.read()).body
            defined = {node.name for node in body if isinstance(node, (ast.FunctionDef, ast.ClassDef))}
            wanted = {line.partition("(")[0] for line in FUNCTIONS.get(name, [])}
            wanted |= {owner for file, owner in METHODS if file == name}
            self.assertLessEqual(wanted, defined)


if __name__ == "__main__":
    unittest.main()
