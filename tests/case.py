"""What the tests share beside the plain model."""

import copy
import unittest

from lastside import errors


class Case(unittest.TestCase):
    """A test case that knows the errors of the program."""

    def refuses(self, error, values, function, *arguments, **more):
        """The call raises exactly this error with these attributes, and changes no argument."""
        before = copy.deepcopy((arguments, more))
        try:
            result = function(*arguments, **more)
            if hasattr(result, "__next__"):
                result = next(result, None)
        except errors.CacheError as raised:
            self.assertIs(type(raised), error, (function, arguments, more, raised))
            self.exactly(tuple(vars(raised).values()), values)
        else:
            self.fail(f"{function.__qualname__}{arguments}{more} returned {result!r}")
        self.exactly_same((arguments, more), before)

    def exactly(self, value, expected):
        """Equal, and of the same kinds throughout: True is not 1, and a list is no tuple."""
        self.assertTrue(alike(value, expected), f"{value!r} is not {expected!r}")

    def exactly_same(self, value, before):
        """Arguments are as they were, as far as they are plain values."""
        for part, old in zip(value[0], before[0]):
            if isinstance(part, (list, tuple, str, int)) or part is None:
                self.exactly(part, old)


def alike(value, expected):
    """True if two values are equal and of the same kinds throughout."""
    if type(value) is not type(expected):
        return False
    if isinstance(value, (list, tuple)):
        return len(value) == len(expected) and all(alike(a, b) for a, b in zip(value, expected))
    return value == expected


def other_than(right, values):
    """The values for which `right` does not hold; the empty list is a value, too."""
    return [value for value in values if not right(value)]
