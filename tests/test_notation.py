"""lastside.notation: point 10."""

import itertools
import random
import unittest

from lastside.caches import Cache
from lastside.errors import InvalidLine, InvalidText
from lastside.notation import format_cache, format_run, parse_cache, parse_run
from lastside.trees import Tree
from tests.case import Case, other_than
from tests.plain import STRANGE, Plain, large_texts, texts_up_to

NO_LINES = [None, True, 0, "h0", "hit", [], ["hit", 0], (), ("hit",), ("hit", 0, 0), ("hit", -1), ("hit", 64),
            ("hit", 10 ** 59), ("hit", True), ("load", False), ("hit", None), ("hit", "0"), ("hit", [0]), ("HIT", 0),
            ("h", 0), ("request", 0), (None, 0), (0, "hit"), (["hit"], 0), (("hit",), 0), ("", 0), (True, True)]
NO_WORDS = ["", "h", "l", "h64", "h65", "h99", "h100", "l640", "h00", "h01", "l063", "h-0", "h-1", "h+1", "H0",
            "L1", "x1", "hh1", "hl", "0", "63", "0h", "h1h", "h1.0", "h1_0", "h\u0661", "h\u00b2", "h\uff11", "h1\n",
            "\nh1", "\th1", "hit0", "h1,h2", "-", "h" + "1" * 70, "\u00e91"]


class RunTest(Case):
    def test_both_ways(self):
        chance = random.Random(3)
        for length in [0, 1, 2, 3, 10, 1000]:
            run = [(chance.choice(["hit", "load"]), chance.randrange(64)) for _ in range(length)]
            text = " ".join(kind[0] + str(slot) for kind, slot in run)
            self.exactly(format_run(run), text)
            self.exactly(parse_run(text), run)

    def test_each_line(self):
        for slot in range(64):
            for kind in ("hit", "load"):
                self.exactly(format_run([(kind, slot)]), f"{kind[0]}{slot}")
                self.exactly(parse_run(f"{kind[0]}{slot}"), [(kind, slot)])

    def test_the_empty_run(self):
        self.exactly(format_run([]), "")
        self.exactly(parse_run(""), [])

    def test_wrong_runs(self):
        for value in other_than(lambda value: isinstance(value, list), STRANGE) + ["h0 l1", (("hit", 0),)]:
            self.refuses(InvalidLine, (-1,), format_run, value)
        for value in NO_LINES:
            self.refuses(InvalidLine, (0,), format_run, [value])
            self.refuses(InvalidLine, (2,), format_run, [("hit", 0), ("load", 63), value, None])

    def test_wrong_words(self):
        for value in other_than(lambda value: isinstance(value, str), STRANGE) + [b"h0", ["h0"]]:
            self.refuses(InvalidText, (-1,), parse_run, value)
        for word in NO_WORDS:
            if word != "":
                self.refuses(InvalidText, (0,), parse_run, word)
            self.refuses(InvalidText, (2,), parse_run, "h0 l63 " + word)
            self.refuses(InvalidText, (1,), parse_run, "l5 " + word + " l5 x")
        self.refuses(InvalidText, (0,), parse_run, "h 1")

    def test_spaces(self):
        self.refuses(InvalidText, (0,), parse_run, " ")
        self.refuses(InvalidText, (0,), parse_run, " h1")
        self.refuses(InvalidText, (1,), parse_run, "h1 ")
        self.refuses(InvalidText, (1,), parse_run, "h1  l2")
        self.refuses(InvalidText, (2,), parse_run, "h1 l2  h1")
        self.refuses(InvalidText, (0,), parse_run, "h1\tl2")
        self.refuses(InvalidText, (0,), parse_run, "h1\nl2")
        self.refuses(InvalidText, (1,), parse_run, "h1 l2\u00a0h3")

    def test_parsing_accepts_exactly_the_written_forms(self):
        known = {f"{letter}{slot}" for letter in "hl" for slot in range(64)}
        for length in (1, 2, 3):
            for marks in itertools.product("hl 0136x", repeat=length):
                text = "".join(marks)
                words = text.split(" ")
                wrong = [index for index, word in enumerate(words) if word not in known]
                if wrong:
                    self.refuses(InvalidText, (wrong[0],), parse_run, text)
                else:
                    self.exactly(format_run(parse_run(text)), text)


class CacheTest(Case):
    def test_both_ways(self):
        chance = random.Random(4)
        for text in texts_up_to(6) + large_texts():
            plain = Plain(text)
            flags = "".join(chance.choice("LR") for _ in range(plain.forks))
            entries = [f"{chance.choice('abz059')}{slot}" for slot in range(plain.slots)]
            cache = Cache(Tree(text), flags, entries)
            written = f"{text} {flags or '-'} {','.join(entries)}"
            self.exactly(format_cache(cache), written)
            self.assertEqual(parse_cache(written), cache)

    def test_without_a_fork(self):
        cache = Cache(Tree("."), "", ["abcdefghij09"])
        self.exactly(format_cache(cache), ". - abcdefghij09")
        self.assertEqual(parse_cache(". - abcdefghij09"), cache)

    def test_the_present_state_is_written(self):
        cache = Cache(Tree("((..)(..))"), "LLL", ["a", "b", "c", "d"])
        cache.request("x")
        self.exactly(format_cache(cache), "((..)(..)) LRR a,b,c,x")

    def test_another_number_of_parts(self):
        for value in other_than(lambda value: isinstance(value, str), STRANGE) + [b". - a", [".", "-", "a"]]:
            self.refuses(InvalidText, (-1,), parse_cache, value)
        texts = ["", " ", ".", ". -", ". - a ", " . - a", ".  - a", ". -  a", ". - a b", "(..) L a, b", "(..) L a ,b",
                 ".\t-\ta", ".\n-\na", ".-a", "(..) L a,b x", "   "]
        for text in texts:
            self.refuses(InvalidText, (-1,), parse_cache, text)

    def test_a_wrong_tree(self):
        for word in ["", "..", "(.)", "(..))", "-", "x", "L", "(" + Tree.comb(64).text + ".)"]:
            self.refuses(InvalidText, (0,), parse_cache, word + " - a")
            self.refuses(InvalidText, (0,), parse_cache, word + " ? ?")
        self.refuses(InvalidText, (0,), parse_cache, "  ")
        self.refuses(InvalidText, (0,), parse_cache, ".\n - a")

    def test_wrong_flags(self):
        for word in ["", "-", "l", "?", "LL", "LLLL", "LL-", "LL?", "LLl", "LLX", "LL\n"]:
            self.refuses(InvalidText, (1,), parse_cache, f"((..)(..)) {word} a,b,c,d")
            self.refuses(InvalidText, (1,), parse_cache, f"((..)(..)) {word} a,a")
        for word in ["", "--", "L", "?", "0", "-\n"]:
            self.refuses(InvalidText, (1,), parse_cache, f". {word} a")
            self.refuses(InvalidText, (1,), parse_cache, f". {word} A")

    def test_wrong_entries(self):
        words = ["", "a", "a,b", "a,b,c,d", "a,b,a", "a,,c", ",b,c", "a,b,", "A,b,c", "a;b;c", "a,b,c,", "a,b,c\n", "a,b,-",
                 "a,b," + "c" * 13, "abc"]
        for word in words:
            self.refuses(InvalidText, (2,), parse_cache, f"(.(..)) LR {word}")
        for word in ["", "-", "a,b", "a" * 13, "A", "a,"]:
            self.refuses(InvalidText, (2,), parse_cache, f". - {word}")
        self.assertEqual(parse_cache("(.(..)) LR a,b," + "c" * 12).at(2), "c" * 12)


if __name__ == "__main__":
    unittest.main()
