"""How the lines of the two sides of a fork can be merged; nothing is checked here."""

from math import comb


def choose(total, taken):
    """The number of ways to choose so many of total things; 0 where there is no way."""
    if taken < 0 or taken > total:
        return 0
    return comb(total, taken)


def block_count(row):
    """The least number of blocks of a row: its loads, and one more if it begins with a hit."""
    return row.count("l") + (1 if row[:1] == "h" else 0)


def merge_count(length, least, other_length, other_least, same):
    """The number of merges in which a side begins, and that end on it if `same` is True."""
    if other_length == 0:
        return 1 if same and least == 1 else 0
    taken = length - other_least - (1 if same else 0)
    return choose(length - least + other_length - other_least, taken)


def agree(start, end):
    """True if the characters of a start and an end pattern at a fork fit an empty talk."""
    return start == end or start == "?" or end == "?"


def allowed_ends(side, end):
    """How a talk that begins on the side may end, by the character of the end pattern.

    A list of True (on the side that begins) and False (on the other side).
    """
    return [same for same in (True, False) if end == "?" or (end == side) == same]
