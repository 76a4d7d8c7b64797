"""Claims about a trace: their form, and whether they hold."""

from lastside.checks import KINDS, SIDES, is_number, is_slot
from lastside.errors import InvalidClaim
from lastside.sightings import REQUESTS


def is_claim(tree, items, value):
    """True if the value is a claim about this trace."""
    if not isinstance(value, tuple) or len(value) == 0:
        return False
    if value[0] == "flag":
        return (len(value) == 4 and is_number(value[1], 0, len(items)) and is_number(value[2], 0, tree.forks - 1)
                and value[3] in SIDES)
    if len(value) != 3 or not is_number(value[1], 0, len(items) - 1) or items[value[1]][0] not in REQUESTS:
        return False
    if value[0] == "kind":
        return value[2] in KINDS
    return value[0] in ("slot", "not slot") and is_slot(tree, value[2])


def check_claim(tree, items, claim):
    """Raises InvalidClaim for every value that is not a claim about this trace."""
    if not is_claim(tree, items, claim):
        raise InvalidClaim(claim)


def holds_of_flags(claim, flags):
    """True if a claim about a flag holds with these flags at its moment."""
    word, moment, fork, side = claim
    return flags[fork] == side


def holds_of_line(claim, line):
    """True if a claim about an item holds with this line for the item."""
    word, index, value = claim
    kind, slot = line
    if word == "kind":
        return kind == value
    return (slot == value) == (word == "slot")


def claims_of_flags(tree, moment, rows):
    """The claims about the flags at the moment that hold with each of these flags, in the order of forks."""
    claims = [("flag", moment, fork, side) for fork in range(tree.forks) for side in SIDES]
    return [claim for claim in claims if all([holds_of_flags(claim, flags) for flags in rows])]


def claims_of_lines(tree, index, lines):
    """The claims about the item that hold with each of these lines, as Python orders them."""
    claims = [("kind", index, kind) for kind in KINDS]
    for word in ("not slot", "slot"):
        claims.extend([(word, index, slot) for slot in range(len(tree))])
    return [claim for claim in claims if all([holds_of_line(claim, line) for line in lines])]
