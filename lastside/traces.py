"""Traces: the histories of what was seen, and the flags that are possible at each moment."""

from lastside.checks import is_flags
from lastside.following import Film
from lastside.sightings import check_trace, flags_behind, says


def possible_flags(tree, items):
    """For each moment the sorted list of the possible flags; all lists are empty if there is no history."""
    check_trace(tree, items)
    return Film(tree, items, []).possible()


def history(tree, items):
    """A history, a tuple (flags, runs), or None if there is none."""
    check_trace(tree, items)
    return Film(tree, items, []).story()


def flags_of_story(tree, items, story):
    """The flags at each moment of a history; None for every value that is not a history."""
    if not isinstance(story, tuple) or len(story) != 2:
        return None
    flags, runs = story
    if not is_flags(tree, flags) or not isinstance(runs, list) or len(runs) != len(items):
        return None
    rows = [flags]
    for item, run in zip(items, runs):
        after = flags_behind(tree, rows[-1], run)
        if after is None or not says(item, rows[-1], run):
            return None
        rows.append(after)
    return rows


def is_history(tree, items, story):
    """True if the value is a history of the trace."""
    check_trace(tree, items)
    return flags_of_story(tree, items, story) is not None
