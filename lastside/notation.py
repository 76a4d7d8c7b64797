"""The written forms of runs and caches."""

from lastside.caches import Cache
from lastside.checks import check_lines, is_made_of
from lastside.errors import InvalidEntry, InvalidFlags, InvalidText, InvalidTree
from lastside.trees import Tree

KINDS_BY_LETTER = {"h": "hit", "l": "load"}
NO_FLAGS = "-"


def format_run(run):
    """The written form of a run."""
    check_lines(run, Tree.MOST - 1)
    return " ".join([f"{kind[0]}{slot}" for kind, slot in run])


def read_slot(digits):
    """The slot from 0 to 63 that is written so, or None."""
    if not is_made_of(digits, "0123456789") or not 1 <= len(digits) <= 2:
        return None
    slot = int(digits)
    # Leading zeros are not a written form, although int() reads them.
    if str(slot) != digits or slot >= Tree.MOST:
        return None
    return slot


def read_line(word):
    """The line that is written as this word, or None."""
    kind = KINDS_BY_LETTER.get(word[:1])
    slot = read_slot(word[1:])
    if kind is None or slot is None:
        return None
    return (kind, slot)


def parse_run(text):
    """The run with this written form."""
    if not isinstance(text, str):
        raise InvalidText(-1)
    if text == "":
        return []
    run = []
    for index, word in enumerate(text.split(" ")):
        line = read_line(word)
        if line is None:
            raise InvalidText(index)
        run.append(line)
    return run


def format_cache(cache):
    """The written form of a cache."""
    flags = cache.flags if cache.tree.forks > 0 else NO_FLAGS
    entries = ",".join(cache.listed())
    return f"{cache.tree.text} {flags} {entries}"


def read_flags(tree, word):
    """The flags of the tree that are written so, or None if a tree without forks has another word."""
    if tree.forks > 0:
        return word
    return "" if word == NO_FLAGS else None


def parse_cache(text):
    """The cache with this written form."""
    if not isinstance(text, str):
        raise InvalidText(-1)
    parts = text.split(" ")
    if len(parts) != 3:
        raise InvalidText(-1)
    try:
        tree = Tree(parts[0])
        return Cache(tree, read_flags(tree, parts[1]), parts[2].split(","))
    except InvalidTree:
        raise InvalidText(0) from None
    except InvalidFlags:
        raise InvalidText(1) from None
    except InvalidEntry:
        raise InvalidText(2) from None
