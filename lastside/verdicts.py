"""Verdicts on claims about a trace, and papers that show that they are right.

An assumption is a list of tuples (claim, truth), as in `following`; the empty list assumes nothing.
"""

from lastside.checks import is_flags
from lastside.claims import check_claim, holds_of_flags, holds_of_line
from lastside.following import Film
from lastside.sightings import check_items, check_size
from lastside.traces import flags_of_story

# The verdict, by whether the claim is true, and whether it is false, in some history.
VERDICTS = {(True, True): "open", (True, False): "sure", (False, True): "never", (False, False): "void"}


def check_claimed(tree, items, claim):
    """Raises the error of the first argument that is not right, or of a tree that is too large."""
    check_items(tree, items)
    check_claim(tree, items, claim)
    check_size(tree)


def films_of(tree, items, claim):
    """The film in which the claim is true, and the one in which it is false."""
    return (Film(tree, items, [(claim, True)]), Film(tree, items, [(claim, False)]))


def verdict(tree, items, claim):
    """The verdict on the claim."""
    check_claimed(tree, items, claim)
    true_film, false_film = films_of(tree, items, claim)
    return VERDICTS[(true_film.has_history(), false_film.has_history())]


def judged(tree, items, claim):
    """The verdict on the claim and a paper for it."""
    word = verdict(tree, items, claim)
    true_film, false_film = films_of(tree, items, claim)
    if word == "open":
        return (word, (true_film.story(), false_film.story()))
    if word == "sure":
        return (word, (true_film.story(), false_film.ahead()))
    if word == "never":
        return (word, (false_film.story(), true_film.ahead()))
    return (word, (Film(tree, items, []).ahead(),))


def is_flags_list(tree, value):
    """True if the value is a sorted list of flags without duplicates."""
    if not isinstance(value, list) or not all([is_flags(tree, flags) for flags in value]):
        return False
    return all([flags < following for flags, following in zip(value, value[1:])])


def is_closed_list(tree, items, assumed, value):
    """True if the value is a closed list for the assumption."""
    if not isinstance(value, list) or len(value) != len(items) + 1:
        return False
    if not all([is_flags_list(tree, row) for row in value]) or len(value[-1]) > 0:
        return False
    film = Film(tree, items, assumed)
    if not all([flags in value[0] for flags in film.begins()]):
        return False
    for index in range(len(items)):
        behind = {after: True for flags in value[index] for after in film.leads(index, flags)}
        if not all([after in value[index + 1] for after in behind]):
            return False
    return True


def is_story_with(tree, items, claim, truth, value):
    """True if the value is a history in which the claim is true, or false, as the truth says."""
    rows = flags_of_story(tree, items, value)
    if rows is None:
        return False
    if claim[0] == "flag":
        return holds_of_flags(claim, rows[claim[1]]) == truth
    return holds_of_line(claim, value[1][claim[1]][0]) == truth


def is_paper(tree, items, claim, word, paper):
    """True if the paper shows that the verdict `word` on the claim is right."""
    check_claimed(tree, items, claim)
    if word not in ("void", "sure", "never", "open") or not isinstance(paper, tuple):
        return False
    if word == "void":
        return len(paper) == 1 and is_closed_list(tree, items, [], paper[0])
    if len(paper) != 2:
        return False
    if word == "open":
        return (is_story_with(tree, items, claim, True, paper[0])
                and is_story_with(tree, items, claim, False, paper[1]))
    truth = word == "sure"
    return (is_story_with(tree, items, claim, truth, paper[0])
            and is_closed_list(tree, items, [(claim, not truth)], paper[1]))
