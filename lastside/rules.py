"""Kin rules: whether hits and loads turn flags, and which way loads take.

A rule is a text: `t` or `k` for hits that turn or keep flags, the same for loads, and `a` or `s` for loads
that take the side that a flag does not show or the side that it shows.
"""

from lastside.checks import check_flags, check_run
from lastside.errors import InvalidRule
from lastside.flags import MIRRORED_SIDES, victim_of

RULES = ("tta", "tts", "tka", "tks", "kta", "kts", "kka", "kks")


def check_rule(rule):
    """Raises InvalidRule for every value that is not a rule."""
    if rule not in RULES:
        raise InvalidRule(rule)


def check_followed(tree, rule, flags, run):
    """Raises the error of the first argument that is not right."""
    check_rule(rule)
    check_flags(tree, flags)
    check_run(tree, run)


def turns_flags(rule, kind):
    """True if lines of this kind turn flags by the rule."""
    return (rule[0] if kind == "hit" else rule[1]) == "t"


def turned_by(tree, rule, flags, line):
    """The flags after the line by the rule."""
    kind, slot = line
    sides = dict(tree.path(slot)) if turns_flags(rule, kind) else {}
    return "".join([sides.get(fork, flag) for fork, flag in enumerate(flags)])


def victim_by(tree, rule, flags):
    """The slot to which a load goes by the rule; nothing is checked."""
    # By `s` a load goes where one by `a` goes from the opposite flags.
    return victim_of(tree, flags if rule[2] == "a" else "".join([MIRRORED_SIDES[side] for side in flags]))


def first_wrong_by(tree, rule, flags, run):
    """None for a run that is valid by the rule, otherwise the tuple (index, fork) of its first wrong line."""
    check_followed(tree, rule, flags, run)
    for index, line in enumerate(run):
        kind, slot = line
        # By `a` a load is wrong at a fork that shows its side, by `s` at one that shows the other side.
        wrong = [fork for fork, side in tree.path(slot) if (flags[fork] == side) == (rule[2] == "a")]
        if kind == "load" and len(wrong) > 0:
            return (index, wrong[0])
        flags = turned_by(tree, rule, flags, line)
    return None


def flags_by(tree, rule, flags, run):
    """The flags after the run by the rule, whether or not it is valid."""
    check_followed(tree, rule, flags, run)
    for line in run:
        flags = turned_by(tree, rule, flags, line)
    return flags


def same_rule(tree, rule, other):
    """True if the two rules behave alike for ever on the tree with equal flags."""
    check_rule(rule)
    check_rule(other)
    if rule == other or tree.forks == 0:
        return True
    return rule[2] == "s" and other[2] == "s" and rule[0] == other[0]
