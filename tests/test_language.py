"""The language rules, held against the files of the package."""

import os
import unittest
import warnings

from tests.language import PACKAGE, file_faults, package_faults

FOLDER = os.path.join(os.path.dirname(os.path.dirname(os.path.abspath(__file__))), PACKAGE)


def sources():
    """The texts of the files of the package by their names without `.py`."""
    texts = {}
    for name in sorted(os.listdir(FOLDER)):
        if name != "__pycache__":
            with open(os.path.join(FOLDER, name), encoding="utf-8", newline="") as file:
                texts[name.removesuffix(".py")] = file.read()
    return texts


class PackageTest(unittest.TestCase):
    def test_the_folder_holds_python_files_alone(self):
        names = [name for name in os.listdir(FOLDER) if name != "__pycache__"]
        self.assertIn("__init__.py", names)
        for name in names:
            self.assertTrue(name.endswith(".py") and os.path.isfile(os.path.join(FOLDER, name)), name)

    def test_each_file(self):
        for name, source in sources().items():
            with self.subTest(name):
                self.assertEqual(file_faults(source), [])

    def test_all_files_together(self):
        self.assertEqual(package_faults(sources()), [])

    def test_no_file_gives_a_warning(self):
        for name, source in sources().items():
            with warnings.catch_warnings():
                warnings.simplefilter("error")
                compile(source, name, "exec")


class CheckerTest(unittest.TestCase):
    """The checker itself: each of these rows breaks the rule that it names."""

    def rules(self, source):
        return {rule for rule, _, _ in file_faults(source)}

    def test_a_good_file(self):
        source = '"""A file."""\n\nNAMES = ("a", "b")\n\n\ndef told(names):\n    """What it says."""\n' \
                 '    return [name for name in names if name in NAMES]\n'
        self.assertEqual(file_faults(source), [])
        source = '"""A file."""\n\n\nclass Desk:\n    """A desk."""\n\n    def __init__(self):\n        self.n = 1\n\n' \
                 '    @property\n    def many(self):\n        return self.n\n\n' \
                 '    @many.setter\n    def many(self, value):\n        self.n = value\n'
        self.assertEqual(file_faults(source), [])
        self.assertEqual(package_faults({"desks": source}), [])

    def test_rows_of_one_file(self):
        rows = [
            ("L6", "import math"), ("L2", "from a import b as c"), ("L2", "from a import *"),
            ("L3", "X = len([])"), ("L3", "print(1)"), ("L3", "A, B = 1, 2"), ("L3", "X = [[1]]"),
            ("L15", "X = 1\nX = 2"), ("L15", "def f(max):\n    return max"),
            ("L15", "class A:\n    pass\n\n\ndef f(A):\n    return A"),
            ("L4", "def f(a=[]):\n    return a"), ("L4", "def f():\n    def g():\n        pass\n    g()"),
            ("L4", "@staticmethod\ndef f():\n    pass"), ("L5", "class A:\n    def __hash__(self):\n        return 1"),
            ("L5", "class A:\n    @property\n    def a(self):\n        return 1\n    @a.setter\n    def b(self, x):\n        pass"),
            ("L5", "class A:\n    @property\n    def a(self):\n        return 1\n    @a.setter\n    def a(self):\n        pass"),
            ("L5", "class A:\n    @a.setter\n    def a(self, x):\n        pass"), ("L22", "def f(a):\n    return sorted(a, key=zip)"),
            ("L18", "class A:\n    def a(self):\n        return 1\n\n    def a(self, x):\n        return x"),
            ("L5", "class A(metaclass=B):\n    pass"), ("L5", "class A:\n    x = len([])"),
            ("L5", "class A:\n    def __add__(self, other):\n        self.n = 1\n        return self"),
            ("L6", "def f():\n    global x"), ("L6", "def f(a):\n    with a:\n        pass"),
            ("L6", "def f(a):\n    a == 1"), ("L7", "def f():\n    return 1.5"), ("L7", "def f(a):\n    return a / 2"),
            ("L7", "def f(a):\n    return sum(x for x in a)"), ("L7", "def f(a):\n    return lambda: a"),
            ("L8", "def f(a):\n    return map(str, a)"), ("L8", "def f(a):\n    return a.__class__"),
            ("L10", "x = 1" + " " * 120), ("L10", "\n" * 400), ("L10", "def f():\n" + "    x = 1\n" * 40),
            ("L12", "def f(x__):\n    return _"), ("L14", "# \u00e9"), ("L14", "x = 1\t"),
            ("L17", "def f():\n    return 'type'"), ("L17", "def f(id):\n    return 1"),
            ("L17", "def f(a):\n    return a.tb_next"), ("L18", "class A:\n    def f(self):\n        self.f = 1"),
            ("L19", "def f(a):\n    raise a"), ("L19", "def f(a):\n    try:\n        a()\n    except Exception:\n        pass"),
            ("L20", "def f(a, b):\n    return a is b"), ("L21", "def f(a: int):\n    return a"),
            ("L22", "def f(a):\n    return [len]"), ("L22", "def f(a):\n    return sum(a, strict=True)"),
            ("L23", "def f(a):\n    x = zip(a, a)\n    return x"),
            ("L23", "def f(a):\n    for x in a:\n        a.append(x)"),
            ("L24", "def f(a):\n    x = set()\n    return x"), ("L24", "def f(a):\n    return [set(a)]"),
            ("L26", "class A:\n    def __init__(self):\n        self.items = 1"),
            ("L27", "def f(a):\n    return '%'"), ("L27", "def f(a):\n    return '\\x41'"),
            ("L27", "def f(a):\n    return 2 ** a"), ("L27", "def f(a):\n    return '__a'"),
            ("L28", "class A:\n    def __len__(self):\n        return self.n"),
            ("L28", "class A:\n    def __init__(self):\n        return None\n    def __str__(self):\n        return self"),
        ]
        for rule, source in rows:
            with self.subTest(source):
                self.assertIn(rule, self.rules(source + "\n"))

    def test_what_operators_may_change(self):
        source = "class A:\n    def __init__(self, n):\n        self.n = n\n\n    def __add__(self, other):\n        return f(other)\n\n\n" \
                 "def f(a):\n    b = A(1)\n    b.n = []\n    c = [a]\n    c.append(1)\n    c[0] = 2\n    k = 0\n    k += 1\n    return b\n"
        self.assertEqual(package_faults({"a": source}), [])

    def yielding(self, files):
        return [what for rule, _, what in package_faults(files) if rule == "L5"]

    def test_no_operator_comes_by_a_yield(self):
        step = "def steps(a):\n    yield a\n"
        operator = "class A:\n    def __add__(self, other):\n        return f(other)\n\n\n"
        rows = [
            ("A.__add__ > f > steps yields", {"a": operator + "def f(a):\n    return list(steps(a))\n\n\n" + step}),
            ("A.__add__ > f > steps yields", {"a": operator + "def f(a):\n    for x in steps(a):\n        return x\n\n\n" + step}),
            ("A.__add__ > f > B > steps yields", {
                "a": "from lastside.b import B\n\n\n" + operator + "def f(a):\n    return B(a)\n",
                "b": "from lastside.c import steps\n\n\nclass B:\n    def __init__(self, a):\n        self.rows = list(steps(a))\n",
                "c": step}),
            ("A.__add__ > f > C > steps yields", {
                "a": operator + "class B:\n    def __init__(self, a):\n        self.rows = [x for x in steps(a)]\n\n\n"
                     "class C(B):\n    pass\n\n\ndef f(a):\n    return C(a)\n\n\n" + step}),
            ("A.__add__ > f > place > steps yields", {
                "a": operator + "def place(x):\n    return sum(steps(x))\n\n\n"
                     "def f(a):\n    return sorted(a, key=place)\n\n\n" + step}),
            ("A.n > walk yields", {
                "a": "class A:\n    @property\n    def n(self):\n        return list(self.walk())\n\n"
                     "    def walk(self):\n        yield from [1]\n"}),
            ("A.__eq__ > steps yields", {"a": "class A:\n    def __eq__(self, other):\n        return any(steps(other))\n\n\n" + step}),
            ("A.__len__ > steps yields", {"a": "class A:\n    def __len__(self):\n        return len(list(steps(1)))\n\n\n" + step}),
            ("A.n yields", {"a": "class A:\n    @property\n    def n(self):\n        yield 1\n"}),
        ]
        for what, files in rows:
            with self.subTest(files):
                self.assertIn(what, self.yielding(files))

    def test_where_a_yield_is_allowed(self):
        step = "def steps(a):\n    yield a\n"
        rows = [
            {"a": "class A:\n    def __init__(self, a):\n        self.rows = list(steps(a))\n\n\n" + step},
            {"a": "class A:\n    def __add__(self, other):\n        return 1\n\n    def told(self):\n        return list(steps(1))\n\n\n" + step},
            {"a": "class A:\n    def __init__(self):\n        self.rows = []\n\n    @property\n    def n(self):\n        return 1\n\n"
                  "    @n.setter\n    def n(self, value):\n        self.rows = list(steps(value))\n\n\n" + step},
        ]
        for files in rows:
            with self.subTest(files):
                self.assertEqual(self.yielding(files), [])

    def test_a_yield_on_the_way_of_the_sum_of_boards(self):
        files = sources()
        files["sightings"] = files["sightings"].replace("all_flags", "each_flags").replace("each_flags(tree)", "list(each_flags(tree))")
        ways = self.yielding(files)
        self.assertEqual([what for what in ways if not what.endswith(" > Turns > each_flags yields")], [])
        self.assertEqual(len(ways), 1)

    def test_rows_of_a_package(self):
        rows = [
            ("L2", {"a": "from lastside.b import x\n", "b": "X = 1\n"}),
            ("L2", {"a": "from random import random\n\n\ndef f():\n    return random()\n"}),
            ("L5", {"a": "class A:\n    def __add__(self, other):\n        return f(self)\n\n\ndef f(a):\n    a.n = 1\n    return a\n"}),
            ("L5", {"a": "class A:\n    @property\n    def n(self):\n        return f([])\n\n\ndef f(a):\n    a.append(1)\n    return a\n"}),
            ("L5", {"a": "class A:\n    def __contains__(self, x):\n        return f(x)\n\n\ndef f(a):\n    b = a\n    b[0] = 1\n    return b\n"}),
            ("L5", {"a": "class A:\n    def __len__(self):\n        return len(f(1))\n\n\ndef f(a):\n    b = []\n    b += [a]\n    return b\n"}),
            ("L14", {"Big": ""}), ("L14", {"test_a": ""}), ("L14", {"len": ""}),
            ("L15", {"a": "X = [1]\n\n\ndef f():\n    return X\n"}),
            ("L16", {"a": "from lastside.b import x\nY = x\n", "b": "from lastside.c import x\nZ = x\n", "c": "x = 1\n"}),
            ("L16", {"a": "from lastside.b import x\nY = x\n", "b": "from lastside.a import Y\nx = Y\n"}),
            ("L18", {"a": "class A:\n    pass\n\n\ndef f():\n    return [A]\n"}),
            ("L23", {"a": "def f():\n    yield 1\n\n\ndef g():\n    return f()\n"}),
            ("L25", {"a": "def f(a):\n    return a.zork()\n"}), ("L25", {"a": "def f(a):\n    return a.split(sep=1)\n"}),
            ("L26", {"a": "class A:\n    def decode(self):\n        return 1\n"}),
        ]
        for rule, files in rows:
            with self.subTest(files):
                self.assertIn(rule, {found for found, _, _ in package_faults(files)})
