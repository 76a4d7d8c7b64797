"""Hit plans: the shortest rows of hits from a pattern to flags, and each of them by its rank."""

from lastside.checks import check_flags, check_number, check_pattern, is_slot
from lastside.errors import InvalidSlot
from lastside.hanging import Orders
from lastside.trails import all_trails, holders, needed_slots


def hit_orders(tree, start, end):
    """The shortest rows, as orders of the slots of the needed trails; the arguments are checked first."""
    check_pattern(tree, start)
    check_flags(tree, end)
    found = all_trails(tree, end)
    held_by = holders(found)
    return Orders({slot: held_by[slot] for slot in needed_slots(found, start, end)})


def hit_plan_count(tree, start, end):
    """The number of the shortest rows."""
    return hit_orders(tree, start, end).total()


def hit_plan_at(tree, start, end, rank):
    """The shortest row with this rank, a list of slots."""
    rows = hit_orders(tree, start, end)
    check_number(rank, 0, None)
    return rows.order_at(rank)


def is_hit_plan(tree, start, end, slots):
    """True if the value is one of the shortest rows."""
    rows = hit_orders(tree, start, end)
    if not isinstance(slots, list) or not all([is_slot(tree, slot) for slot in slots]):
        return False
    return rows.has_order(slots)


def hit_plan_rank(tree, start, end, slots):
    """The rank of one of the shortest rows."""
    if not is_hit_plan(tree, start, end, slots):
        raise InvalidSlot(slots)
    return hit_orders(tree, start, end).rank_of(slots)
