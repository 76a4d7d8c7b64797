"""Comparing values of any form with the value that is right."""


def kind_of(value):
    """The kind of a value; True and False are no integers, and lists no tuples."""
    if value is None:
        return "none"
    if isinstance(value, bool):
        return "bool"
    if isinstance(value, int):
        return "int"
    if isinstance(value, str):
        return "str"
    if isinstance(value, list):
        return "list"
    if isinstance(value, tuple):
        return "tuple"
    return "other"


def same_value(value, right):
    """True if the value equals the right one, and all their parts are of the same kinds."""
    kind = kind_of(right)
    if kind_of(value) != kind:
        return False
    if kind not in ("list", "tuple"):
        return value == right
    if len(value) != len(right):
        return False
    return all([same_value(part, other) for part, other in zip(value, right)])
