"""lastside.desks: points 53, 54 and 55."""

import random
import unittest

from lastside.caches import Cache
from lastside.desks import Desk, replay
from lastside.errors import Guarded, InvalidDeed, InvalidEntry, InvalidNumber, InvalidSetting, InvalidSlot
from lastside.errors import NothingLeft, Refused, Resident, TooMany
from lastside.runs import play
from lastside.trees import Tree
from tests.case import Case, alike
from tests.plain import STRANGE, large_texts, texts_up_to
from tests.test_keepers import names, random_flags
from tests.wrong import NO_ENTRIES, NO_SLOTS, TEXT, WRONG, variations


# A plain cache is an entry, or a tuple (flag, left side, right side) of plain caches.

def plain_cache(text, flags, entries):
    """The plain cache with these flags and entries."""
    marks, names_left = iter(text), iter(entries)

    def read():
        return ["", read(), read(), next(marks)] if next(marks) == "(" else next(names_left)

    def dressed(node, sides):
        if isinstance(node, str):
            return node
        left = dressed(node[1], sides)
        flag = next(sides)
        return (flag, left, dressed(node[2], sides))

    return dressed(read(), iter(flags))


def entries_of(node):
    return [node] if isinstance(node, str) else entries_of(node[1]) + entries_of(node[2])


def flags_of(node):
    return "" if isinstance(node, str) else flags_of(node[1]) + node[0] + flags_of(node[2])


def text_of(node):
    return "." if isinstance(node, str) else "(" + text_of(node[1]) + text_of(node[2]) + ")"


def with_slot(node, slot, change):
    """The plain cache with a slot changed, and the flags on its path turned."""
    if isinstance(node, str):
        return change(node)
    many = len(entries_of(node[1]))
    if slot < many:
        return ("L", with_slot(node[1], slot, change), node[2])
    return ("R", node[1], with_slot(node[2], slot - many, change))


def used(node, slot):
    return with_slot(node, slot, lambda entry: entry)


def victim_of(node):
    if isinstance(node, str):
        return 0
    return victim_of(node[1]) if node[0] == "R" else len(entries_of(node[1])) + victim_of(node[2])


def closed(node, slot):
    """The plain cache without a slot; the other flags stay."""
    many = len(entries_of(node[1]))
    if slot < many:
        return node[2] if isinstance(node[1], str) else (node[0], closed(node[1], slot), node[2])
    return node[1] if isinstance(node[2], str) else (node[0], node[1], closed(node[2], slot - many))


class PlainDesk:
    """A desk by the words of Part 9. It keeps whole rows of deeds, each with the plain cache behind it and its lines."""

    def __init__(self, node):
        self.first, self.done, self.undone, self.undoable, self.capacity, self.guarded = node, [], [], 0, 100, []

    def now(self):
        return self.done[-1][1] if self.done else self.first

    def copy(self):
        other = PlainDesk(self.first)
        other.done, other.undone, other.undoable = list(self.done), list(self.undone), self.undoable
        other.capacity, other.guarded = self.capacity, list(self.guarded)
        return other

    def trim(self):
        self.undoable = min(self.undoable, self.capacity)

    def do(self, deed, node, lines):
        self.done.append((deed, node, lines))
        self.undone = []
        self.undoable += 1
        self.trim()

    def answers(self, entries):
        """The answers, the plain cache behind them and the lines; or the guarded entry that stops them."""
        node, answers = self.now(), []
        for entry in entries:
            listed = entries_of(node)
            if entry in listed:
                answers.append(("hit", listed.index(entry), None))
            else:
                slot = victim_of(node)
                if listed[slot] in self.guarded:
                    return listed[slot], None, None
                answers.append(("load", slot, listed[slot]))
            node = with_slot(node, answers[-1][1], lambda old: entry)
        return answers, node, [answer[:2] for answer in answers]

    def base(self):
        places = [place for place, row in enumerate(self.done) if row[0][0] in ("grow", "close")]
        return places[-1] + 1 if places else 0


def cache_values(cache):
    return (cache.tree.text, cache.flags, cache.listed())


def node_values(node):
    return (text_of(node), flags_of(node), entries_of(node))


def cache_of(node):
    return Cache(Tree(text_of(node)), flags_of(node), entries_of(node))


def four():
    return Cache(Tree(TEXT), "LLL", ["a", "b", "c", "d"])


class FollowTest(Case):
    def same(self, desk, plain):
        self.exactly(cache_values(desk.cache()), node_values(plain.now()))
        self.exactly(desk.deeds(), [deed for deed, _, _ in plain.done])
        self.exactly([desk.capacity, desk.settings()], [plain.capacity, {"capacity": plain.capacity, "guarded": plain.guarded}])
        self.exactly(list(desk.settings()["guarded"]), plain.guarded)
        at = plain.base()
        self.exactly(cache_values(desk.base()), node_values(plain.done[at - 1][1] if at else plain.first))
        lines = [line for _, _, lines in plain.done[at:] for line in lines]
        self.exactly(desk.lines(), lines)
        self.exactly(desk.misses, sum(kind == "load" for _, _, lines in plain.done for kind, _ in lines))

    def same_to_undo_and_redo(self, desk, plain):
        """How much can be undone and redone; the desk is as it was behind the call."""
        self.refuses(NothingLeft, (plain.undoable,), desk.undo, plain.undoable + 1)
        self.refuses(NothingLeft, (len(plain.undone),), desk.redo, len(plain.undone) + 1)

    def step(self, chance, desk, plain, number):
        """One random call on both."""
        word = chance.choice("request request hit serve serve attempt grow close undo undo redo redo capacity guarded".split())
        node = plain.now()
        listed = entries_of(node)
        entry = chance.choice(listed + [f"n{number}", "zz", "z1"])
        slot = chance.randrange(len(listed))
        if word == "request":
            answers, after, lines = plain.answers([entry])
            if isinstance(answers, str):
                self.refuses(Guarded, (answers,), desk.request, entry)
            else:
                self.exactly(desk.request(entry), answers[0])
                plain.do(("request", entry), after, lines)
        elif word == "hit":
            self.exactly(desk.hit(slot), listed[slot])
            plain.do(("hit", slot), used(node, slot), [("hit", slot)])
        elif word in ("serve", "attempt"):
            entries = [chance.choice(listed + [f"n{number}", f"m{number}", "zz"]) for _ in range(chance.randrange(5))]
            answers, after, lines = plain.answers(entries)
            if isinstance(answers, str):
                self.refuses(Guarded, (answers,), getattr(desk, word), *entries)
            else:
                self.exactly(getattr(desk, word)(*entries), answers)
                if word == "serve" and entries:
                    plain.do(("serve", tuple(entries)), after, lines)
        elif word == "grow" and (len(listed) < 8 or chance.random() < 0.2):
            if entry in listed:
                self.refuses(Resident, (entry,), desk.grow, slot, entry)
            else:
                self.exactly(desk.grow(slot, entry), None)
                grown = with_slot(node, slot, lambda old: ("L", old, entry))
                plain.do(("grow", slot, entry), used(grown, slot + 1), [])
        elif word == "close":
            if len(listed) == 1:
                self.refuses(InvalidSlot, (slot,), desk.close, slot)
            elif listed[slot] in plain.guarded:
                self.refuses(Guarded, (listed[slot],), desk.close, slot)
            else:
                self.exactly(desk.close(slot), listed[slot])
                plain.do(("close", slot), closed(node, slot), [])
        else:
            self.step_back(chance, desk, plain, word, listed)

    def step_back(self, chance, desk, plain, word, listed):
        """One random call that is no deed."""
        count = chance.choice([1, 1, 2, 3, 8])
        if word == "undo":
            if count > plain.undoable:
                self.refuses(NothingLeft, (plain.undoable,), desk.undo, count)
            else:
                self.exactly(desk.undo(count) if count > 1 or chance.random() < 0.5 else desk.undo(), None)
                plain.undone += plain.done[:-count - 1:-1]
                del plain.done[-count:]
                plain.undoable -= count
        elif word == "redo":
            if count > len(plain.undone):
                self.refuses(NothingLeft, (len(plain.undone),), desk.redo, count)
            else:
                self.exactly(desk.redo(count) if count > 1 or chance.random() < 0.5 else desk.redo(), None)
                plain.done += plain.undone[:-count - 1:-1]
                del plain.undone[-count:]
                plain.undoable += count
                plain.trim()
        elif word == "capacity" and chance.random() < 0.3:
            plain.capacity = chance.choice([0, 1, 2, 3, 5, 100, 1000])
            plain.trim()
            if chance.random() < 0.5:
                desk.capacity = plain.capacity
            else:
                self.exactly(desk.configure(capacity=plain.capacity), None)
        elif word == "guarded":
            plain.guarded = chance.choice([[], [], chance.sample(listed, 1), ["zz"], chance.sample(listed, 1) + ["q", "q1"]])
            self.exactly(desk.configure(guarded=plain.guarded), None)

    def test_long_rows_of_calls(self):
        chance = random.Random(251)
        for text in texts_up_to(4) + ["((..)((..).))"]:
            flags, entries = random_flags(chance, text.count(".") - 1), names(text.count("."))
            cache = Cache(Tree(text), flags, entries)
            desk, plain = Desk(cache), PlainDesk(plain_cache(text, flags, entries))
            branches = []
            for number in range(500):
                self.step(chance, desk, plain, number)
                self.same(desk, plain)
                self.same_to_undo_and_redo(desk, plain)
                if number % 20 == 0:
                    self.exactly(cache_values(replay(cache, desk.deeds())), cache_values(desk.cache()))
                    behind = play(desk.base().tree, desk.base().flags, desk.lines())
                    self.exactly(behind, desk.cache().flags)
                    branch, copy = desk.branch(), plain.copy()
                    self.assertIs(type(branch), Desk)
                    if chance.random() < 0.5:
                        desk, branch = branch, desk
                    branches.append((branch, copy))
            for branch, copy in branches:
                self.same(branch, copy)
                self.same_to_undo_and_redo(branch, copy)
                for number in range(10):
                    self.step(chance, branch, copy, 1000 + number)
                    self.same(branch, copy)
            self.same(desk, plain)
            self.exactly(cache_values(cache), (text, flags, entries))


class DeedsTest(Case):
    def test_written_out(self):
        desk = Desk(four())
        self.exactly([desk.request("x"), desk.hit(1), desk.serve("y", "a", "y")],
                     [("load", 3, "d"), "b", [("load", 2, "c"), ("hit", 0, None), ("hit", 2, None)]])
        self.exactly(desk.deeds(), [("request", "x"), ("hit", 1), ("serve", ("y", "a", "y"))])
        self.exactly(desk.lines(), [("load", 3), ("hit", 1), ("load", 2), ("hit", 0), ("hit", 2)])
        self.exactly([desk.misses, cache_values(desk.cache()), cache_values(desk.base())],
                     [2, (TEXT, "LRL", ["a", "b", "y", "x"]), (TEXT, "LLL", ["a", "b", "c", "d"])])
        self.exactly([desk.grow(1, "g"), cache_values(desk.cache()), desk.lines(), desk.misses],
                     [None, ("((.(..))(..))", "RRLL", ["a", "b", "g", "y", "x"]), [], 2])
        self.exactly(cache_values(desk.base()), cache_values(desk.cache()))
        self.exactly([desk.close(0), cache_values(desk.cache())], ["a", ("((..)(..))", "RLL", ["b", "g", "y", "x"])])
        self.exactly([desk.hit(3), desk.lines(), cache_values(desk.base())], ["x", [("hit", 3)], (TEXT, "RLL", ["b", "g", "y", "x"])])
        self.exactly([desk.undo(2), cache_values(desk.cache())[0], desk.lines()], [None, "((.(..))(..))", []])
        self.exactly([desk.undo(), len(desk.lines()), desk.redo(3), desk.lines(), len(desk.deeds())], [None, 5, None, [("hit", 3)], 6])

    def test_growing_and_closing(self):
        desk = Desk(Cache(Tree("."), "", ["a"]))
        self.refuses(InvalidSlot, (0,), desk.close, 0)
        desk.grow(0, "b")
        self.exactly(cache_values(desk.cache()), ("(..)", "R", ["a", "b"]))
        desk.grow(0, "c")
        self.exactly(cache_values(desk.cache()), ("((..).)", "RL", ["a", "c", "b"]))
        self.exactly([desk.close(1), desk.close(1), cache_values(desk.cache())], ["c", "b", (".", "", ["a"])])
        self.refuses(InvalidSlot, (0,), desk.close, 0)
        # The flags that do not lie on the path stay, also if the root is the fork that is closed.
        desk = Desk(Cache(Tree("(.((..)(..)))"), "LRLR", names(5)))
        self.exactly([desk.close(0), cache_values(desk.cache())], ["e0", (TEXT, "RLR", names(5)[1:])])

    def test_sixty_four_slots(self):
        for text in large_texts():
            desk = Desk(Cache(Tree(text), "L" * 63, names(64)))
            self.refuses(TooMany, (64,), desk.grow, 0, "new")
            self.refuses(Resident, ("e5",), desk.grow, 0, "e5")
            self.refuses(InvalidEntry, ("NEW",), desk.grow, 0, "NEW")
            self.exactly(desk.deeds(), [])
            self.exactly(desk.close(40), "e40")
            desk.grow(62, "new")
            self.exactly([len(desk.cache()), desk.cache().at(63), desk.cache().flags[62]], [64, "new", "R"])
            self.refuses(TooMany, (64,), desk.grow, 0, "newer")
            self.exactly(cache_values(replay(Cache(Tree(text), "L" * 63, names(64)), desk.deeds())), cache_values(desk.cache()))

    def test_deeds_that_change_nothing(self):
        desk = Desk(Cache(Tree("."), "", ["a"]))
        desk.request("a")
        desk.hit(0)
        desk.serve("a", "a")
        self.exactly(desk.deeds(), [("request", "a"), ("hit", 0), ("serve", ("a", "a"))])
        desk.undo(3)
        self.refuses(NothingLeft, (0,), desk.undo)
        # Each of them discards what could be redone.
        for number, call in enumerate((lambda: desk.request("a"), lambda: desk.hit(0), lambda: desk.serve("a"))):
            call()
            self.refuses(NothingLeft, (0,), desk.redo)
            desk.undo()
            self.refuses(NothingLeft, (1,), desk.redo, 2)

    def test_what_is_no_deed(self):
        desk = Desk(four())
        desk.serve("a", "x")
        desk.undo()
        self.exactly([desk.serve(), desk.attempt(), desk.attempt("x", "x"), desk.configure()],
                     [[], [], [("load", 3, "d"), ("hit", 3, None)], None])
        desk.configure(capacity=7, guarded=["a"])
        desk.cache(), desk.base(), desk.lines(), desk.deeds(), desk.misses, desk.capacity, desk.settings(), desk.branch()
        desk.branch().request("q")
        self.exactly([desk.deeds(), cache_values(desk.cache())], [[], (TEXT, "LLL", ["a", "b", "c", "d"])])
        self.refuses(NothingLeft, (1,), desk.redo, 2)
        desk.redo()
        self.exactly([desk.deeds(), desk.misses], [[("serve", ("a", "x"))], 1])

    def test_refused_calls_change_nothing(self):
        desk = Desk(four())
        desk.configure(guarded=["d", "zz"])
        desk.hit(2)
        desk.undo()
        before = cache_values(desk.cache())
        calls = [(Guarded, ("d",), desk.request, ["x"]), (Guarded, ("d",), desk.serve, ["a", "x", "b", "q"]), (Guarded, ("d",), desk.attempt, ["x"]),
                 (Guarded, ("d",), desk.close, [3]), (Resident, ("b",), desk.grow, [0, "b"]), (InvalidSlot, (4,), desk.hit, [4]),
                 (InvalidEntry, ("B",), desk.request, ["B"]), (InvalidEntry, ("B",), desk.serve, ["x", "B"]), (InvalidSlot, (9,), desk.close, [9]),
                 (InvalidNumber, (0,), desk.undo, [0]), (NothingLeft, (0,), desk.undo, [1]), (NothingLeft, (1,), desk.redo, [2]),
                 (InvalidSlot, (True,), desk.grow, [True, "b"]), (InvalidEntry, ("B",), desk.grow, [0, "B"])]
        for error, values, function, arguments in calls:
            self.refuses(error, values, function, *arguments)
            self.exactly([cache_values(desk.cache()), desk.deeds(), desk.misses], [before, [], 0])
        desk.redo()
        self.exactly(desk.deeds(), [("hit", 2)])


class SettingsTest(Case):
    def test_capacities(self):
        for capacity in (0, 1, 100, 1000):
            desk = Desk(four())
            self.exactly(desk.capacity, 100)
            desk.capacity = capacity
            self.exactly([desk.capacity, desk.settings()], [capacity, {"capacity": capacity, "guarded": []}])
            for number in range(1003 if capacity == 1000 else 120):
                desk.hit(number % 4)
            many = len(desk.deeds())
            self.refuses(NothingLeft, (min(capacity, many),), desk.undo, min(capacity, many) + 1)
            if capacity:
                desk.undo(capacity)
                self.exactly(len(desk.deeds()), many - capacity)
                self.refuses(NothingLeft, (0,), desk.undo)
                desk.redo(capacity)
            self.exactly(len(desk.deeds()), many)

    def test_smaller_and_greater_again(self):
        desk = Desk(four())
        for number in range(10):
            desk.hit(number % 4)
        desk.capacity = 4
        self.refuses(NothingLeft, (4,), desk.undo, 5)
        desk.capacity = 100
        self.refuses(NothingLeft, (4,), desk.undo, 5)
        desk.hit(0)
        self.refuses(NothingLeft, (5,), desk.undo, 6)
        desk.undo(5)
        self.exactly([len(desk.deeds()), len(desk.lines())], [6, 6])
        # Deeds that can be redone have no bound of their own, but redone deeds count.
        desk.capacity = 2
        self.refuses(NothingLeft, (5,), desk.redo, 6)
        desk.redo(5)
        self.refuses(NothingLeft, (2,), desk.undo, 3)
        desk.undo(2)
        desk.capacity = 0
        self.refuses(NothingLeft, (0,), desk.undo)
        desk.redo(1)
        self.refuses(NothingLeft, (0,), desk.undo)
        self.refuses(NothingLeft, (1,), desk.redo, 2)
        self.exactly(len(desk.deeds()), 10)

    def test_more_deeds_than_can_be_undone(self):
        desk = Desk(four())
        for number in range(150):
            desk.request(f"n{number}")
        self.refuses(NothingLeft, (100,), desk.undo, 101)
        self.refuses(NothingLeft, (100,), desk.undo, 10 ** 59)
        desk.undo(100)
        self.exactly([len(desk.deeds()), desk.misses, len(desk.lines())], [50, 50, 50])
        self.exactly(desk.deeds()[0], ("request", "n0"))

    def test_guarded_entries(self):
        desk = Desk(four())
        desk.configure(guarded=["zz", "d"])
        self.exactly(desk.settings()["guarded"], ["zz", "d"])
        self.refuses(Guarded, ("d",), desk.request, "x")
        # A hit at a guarded entry is none that evicts, and a guarded entry that is not in the cache is loaded.
        self.exactly([desk.request("d"), desk.request("zz")], [("hit", 3, None), ("load", 1, "b")])
        self.exactly([desk.request("c"), desk.close(0)], [("hit", 2, None), "a"])
        self.refuses(Guarded, ("zz",), desk.close, 0)
        # Undoing and redoing are never refused because of a setting.
        desk.configure(guarded=[])
        desk.grow(0, "g")
        self.exactly(desk.serve("p", "q"), [("load", 3, "d"), ("load", 0, "zz")])
        desk.configure(guarded=["g", "zz", "d", "c", "p"])
        desk.undo(2)
        desk.redo(2)
        desk.undo(6)
        desk.redo(6)
        self.exactly([len(desk.deeds()), desk.cache().listed(), desk.settings()["guarded"]],
                     [6, ["q", "g", "c", "p"], ["g", "zz", "d", "c", "p"]])
        self.exactly(issubclass(Guarded, Refused), True)

    def test_a_refusal_in_the_middle(self):
        desk = Desk(four())
        desk.configure(guarded=["b"])
        before = cache_values(desk.cache())
        # x replaces d in slot 3, and the next load would replace b in slot 1.
        self.exactly(desk.attempt("x", "a"), [("load", 3, "d"), ("hit", 0, None)])
        for function in (desk.serve, desk.attempt):
            self.refuses(Guarded, ("b",), function, "x", "y", "a")
            self.exactly([cache_values(desk.cache()), desk.deeds(), desk.misses], [before, [], 0])

    def test_settings_that_are_refused(self):
        desk = Desk(four())
        desk.configure(capacity=5, guarded=["a"])
        for value in [value for value in STRANGE if type(value) is not int] + [-1, 1001, 10 ** 59]:
            self.refuses(InvalidNumber, (value,), desk.configure, capacity=value)
            self.refuses(InvalidNumber, (value,), desk.configure, guarded=["b"], capacity=value)
            self.refuses(InvalidNumber, (value,), desk.configure, capacity=value, guarded=None)
            self.refuses(InvalidNumber, (value,), setattr, desk, "capacity", value)
        for value in [value for value in STRANGE if type(value) is not list] + [("a",), "a"]:
            self.refuses(InvalidEntry, (value,), desk.configure, guarded=value)
            self.refuses(InvalidEntry, (value,), desk.configure, capacity=7, guarded=value)
            self.refuses(InvalidEntry, (value,), desk.configure, guarded=value, capacity=-1)
        for value in NO_ENTRIES:
            self.refuses(InvalidEntry, (value,), desk.configure, guarded=["x", value, None])
        self.refuses(InvalidEntry, ("x",), desk.configure, guarded=["x", "y", "x", None])
        for name in ("guard", "Capacity", "guarded_", "cache", "deeds", "misses"):
            self.refuses(InvalidSetting, (name,), desk.configure, **{name: 5})
            self.refuses(InvalidSetting, (name,), desk.configure, capacity=7, **{name: 5})
            self.refuses(InvalidNumber, (-7,), desk.configure, **{"capacity": -7, name: 5})
        self.refuses(InvalidSetting, ("more",), desk.configure, guarded=[], more=1, capacity=None)
        self.exactly(desk.settings(), {"capacity": 5, "guarded": ["a"]})
        self.exactly([list(desk.settings()), desk.settings()["guarded"]], [["capacity", "guarded"], ["a"]])
        desk.configure(guarded=["b"], capacity=0)
        self.exactly([desk.settings()["capacity"], desk.settings()["guarded"]], [0, ["b"]])

    def test_lists_of_settings_are_copied(self):
        desk, guarded = Desk(four()), ["d"]
        desk.configure(guarded=guarded)
        guarded.clear()
        desk.settings()["guarded"].clear()
        desk.settings()["capacity"] = 3
        branch = desk.branch()
        branch.configure(guarded=[], capacity=1)
        self.exactly([desk.settings()["guarded"], desk.capacity], [["d"], 100])
        self.refuses(Guarded, ("d",), desk.request, "x")


class ReplayTest(Case):
    def is_right(self, cache, deeds):
        """The index of the first deed that is not right, or None, by a plain desk."""
        plain = PlainDesk(plain_cache(*cache_values(cache)))
        for index, deed in enumerate(deeds):
            node = plain.now()
            listed = entries_of(node)

            def is_entry(value):
                return type(value) is str and 1 <= len(value) <= 12 and all("a" <= mark <= "z" or "0" <= mark <= "9" for mark in value)

            def is_slot(value):
                return type(value) is int and 0 <= value < len(listed)

            form = type(deed) is tuple and len(deed) > 1 and deed[0]
            if form in ("request", "serve") and len(deed) == 2:
                entries = (deed[1],) if form == "request" else deed[1]
                if type(entries) is not tuple or not entries or not all(is_entry(entry) for entry in entries):
                    return index
                _, node, lines = plain.answers(entries)
            elif form == "hit" and len(deed) == 2 and is_slot(deed[1]):
                node = used(node, deed[1])
            elif form == "grow" and len(deed) == 3 and is_slot(deed[1]) and is_entry(deed[2]) and deed[2] not in listed:
                node = used(with_slot(node, deed[1], lambda old: ("L", old, deed[2])), deed[1] + 1)
            elif form == "close" and len(deed) == 2 and is_slot(deed[1]) and len(listed) > 1:
                node = closed(node, deed[1])
            else:
                return index
            plain.do(deed, node, [])
        return plain.now()

    def test_deeds_with_one_thing_changed(self):
        cache = four()
        deeds = [("request", "x"), ("hit", 3), ("serve", ("a", "n")), ("grow", 3, "g"), ("close", 0), ("hit", 3), ("close", 2), ("hit", 2)]
        kinds = [0, 0]
        for value in [value for value in variations(deeds) if type(value) is list] + [deeds[:many] for many in range(len(deeds) + 1)]:
            right = self.is_right(cache, value)
            kinds[type(right) is int] += 1
            if type(right) is int:
                self.refuses(InvalidDeed, (right,), replay, cache, value)
            else:
                self.exactly(cache_values(replay(cache, value)), node_values(right))
        self.assertTrue(min(kinds) > 20, kinds)
        self.exactly(cache_values(cache), (TEXT, "LLL", ["a", "b", "c", "d"]))

    def test_wrong_deeds(self):
        cache = four()
        wrong = STRANGE + [["hit", 0], ("hit",), ("hit", 0, 0), ("hit", True), ("hit", 4), ("hit", "0"), ("hits", 0), ("request",), ("request", "A"),
                           ("request", ("a",)), ("request", "a", "b"), ("serve",), ("serve", ()), ("serve", ["a"]), ("serve", "a"),
                           ("serve", ("a", "")), ("serve", ("a",), ("b",)), ("serve", "a", "b"), ("grow", 0), ("grow", 0, "a"), ("grow", 4, "x"),
                           ("grow", 0, "X"), ("grow", False, "x"), ("grow", 0, "x", 0), ("grow", "x", 0), ("close",), ("close", 4), ("close", True),
                           ("close", 0, 0), ("close", "a"), (None, 0), (["hit"], 0), (0, "hit"), ("undo", 1), ("attempt", ("a",)), ((), ())]
        for value in wrong:
            if alike(value, ("hit", 0)):
                continue
            self.refuses(InvalidDeed, (0,), replay, cache, [value])
            self.refuses(InvalidDeed, (2,), replay, cache, [("request", "x"), ("hit", 0), value, None])
        for value in STRANGE:
            if type(value) is not list:
                self.refuses(InvalidDeed, (-1,), replay, cache, value)
        self.refuses(InvalidDeed, (-1,), replay, cache, (("hit", 0),))
        # Slots are those of the cache at that moment.
        self.refuses(InvalidDeed, (1,), replay, cache, [("close", 0), ("hit", 3)])
        self.exactly(cache_values(replay(cache, [("grow", 3, "x"), ("hit", 4)]))[2], ["a", "b", "c", "d", "x"])
        self.refuses(InvalidDeed, (0,), replay, Cache(Tree("."), "", ["a"]), [("close", 0)])
        large = Cache(Tree.comb(64), "L" * 63, names(64))
        self.refuses(InvalidDeed, (1,), replay, large, [("hit", 63), ("grow", 0, "x")])

    def test_replays_are_new_caches(self):
        cache, deeds = four(), [("request", "x")]
        first, second = replay(cache, []), replay(cache, deeds)
        self.exactly([first == cache, first is cache, second == cache], [True, False, False])
        first.request("q")
        self.exactly([cache_values(cache), deeds], [(TEXT, "LLL", ["a", "b", "c", "d"]), [("request", "x")]])
        # A cache without settings: what a desk with guarded entries did can be replayed.
        self.exactly(second.listed(), ["a", "b", "c", "x"])
        self.exactly(cache_values(replay(cache, [("hit", number % 4) for number in range(1000)])), (TEXT, "RRR", ["a", "b", "c", "d"]))


class ArgumentsTest(Case):
    def test_wrong_arguments(self):
        desk = Desk(four())
        for value in NO_SLOTS:
            self.refuses(InvalidSlot, (value,), desk.hit, value)
            self.refuses(InvalidSlot, (value,), desk.close, value)
            self.refuses(InvalidSlot, (value,), desk.grow, value, "x")
            self.refuses(InvalidSlot, (value,), desk.grow, value, "X")
            self.refuses(InvalidSlot, (value,), desk.grow, value, "a")
        for value in NO_ENTRIES:
            self.refuses(InvalidEntry, (value,), desk.request, value)
            self.refuses(InvalidEntry, (value,), desk.grow, 0, value)
            for function in (desk.serve, desk.attempt):
                self.refuses(InvalidEntry, (value,), function, value)
                self.refuses(InvalidEntry, (value,), function, "a", "x", value, None)
        # All entries are checked before a request is refused.
        desk.configure(guarded=["d"])
        self.refuses(InvalidEntry, ("A",), desk.serve, "x", "A")
        self.refuses(InvalidEntry, ("A",), desk.attempt, "x", "A")
        for value, error, values in WRONG["positive"]:
            self.refuses(error, values, desk.undo, value)
            self.refuses(error, values, desk.redo, value)
        self.exactly([desk.deeds(), cache_values(desk.cache())], [[], (TEXT, "LLL", ["a", "b", "c", "d"])])

    def test_caches_are_twins(self):
        cache = four()
        desk = Desk(cache)
        cache.request("q")
        self.exactly(desk.cache().listed(), ["a", "b", "c", "d"])
        desk.request("x")
        for other in (desk.cache(), desk.base()):
            other.request("w")
            other.request("v")
        self.exactly([desk.cache().listed(), desk.base().listed()], [["a", "b", "c", "x"], ["a", "b", "c", "d"]])
        desk.undo()
        self.exactly(desk.cache().listed(), ["a", "b", "c", "d"])
        desk.redo()
        desk.grow(0, "g")
        desk.base().hit(3)
        self.exactly(desk.base() == desk.cache(), True)

    def test_lists_are_new(self):
        desk = Desk(four())
        answers = desk.serve("x", "a")
        desk.deeds().clear()
        desk.lines().clear()
        answers.clear()
        desk.attempt("a").clear()
        self.exactly([desk.deeds(), desk.lines(), desk.misses], [[("serve", ("x", "a"))], [("load", 3), ("hit", 0)], 1])

    def test_misses_cannot_be_set(self):
        with self.assertRaises(AttributeError):
            Desk(four()).misses = 3


if __name__ == "__main__":
    unittest.main()
