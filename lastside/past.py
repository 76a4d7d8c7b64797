"""The past: the orders of last use that fit flags."""

from lastside.checks import check_flags, check_number, check_order, check_slot
from lastside.errors import InvalidSlot
from lastside.flags import victim_of
from lastside.hanging import Orders
from lastside.trails import all_trails, holders, with_holders


def fitting_orders(tree, flags):
    """The orders that fit the flags, which are checked first."""
    check_flags(tree, flags)
    return Orders(holders(all_trails(tree, flags)))


def past_count(tree, flags):
    """The number of the orders that fit."""
    return fitting_orders(tree, flags).total()


def past_at(tree, flags, rank):
    """The order with this rank among those that fit."""
    orders = fitting_orders(tree, flags)
    check_number(rank, 0, None)
    return orders.order_at(rank)


def past_rank(tree, flags, order):
    """The rank of an order that fits; InvalidSlot for another one."""
    if not fits_past(tree, flags, order):
        raise InvalidSlot(order)
    return fitting_orders(tree, flags).rank_of(order)


def fits_past(tree, flags, order):
    """True if the order fits the flags."""
    orders = fitting_orders(tree, flags)
    check_order(order, len(tree))
    return orders.has_order(order)


def surely_before(tree, flags, slot, other):
    """True if the slot stands before the other one in every order that fits."""
    check_flags(tree, flags)
    check_slot(tree, slot)
    check_slot(tree, other)
    return slot != other and other in with_holders([slot], holders(all_trails(tree, flags)))


def oldest_count(tree, flags):
    """The number of the orders that fit in which the victim stands first."""
    orders = fitting_orders(tree, flags)
    return orders.begun_at(victim_of(tree, flags))
