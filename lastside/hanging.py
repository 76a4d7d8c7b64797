"""The orders of slots in which each slot stands behind all those that hang on it."""

from math import factorial

from lastside.errors import InvalidNumber


class Orders:
    """The orders of the slots of some trails.

    `held_by` has, for each slot, the slot on which it hangs, or None. An object does not change: taking
    the first slot of an order gives a new one.
    """

    def __init__(self, held_by):
        self._held_by = held_by
        self._sizes = {slot: 0 for slot in held_by}
        for slot in held_by:
            for other in self._chain(slot):
                self._sizes[other] += 1

    def _chain(self, slot):
        """The slot and all on which it hangs, directly or indirectly."""
        chain = []
        while slot is not None:
            chain.append(slot)
            slot = self._held_by[slot]
        return chain

    def slots(self):
        """The slots, ascending."""
        return sorted(list(self._held_by))

    def total(self):
        """The number of the orders."""
        many = factorial(len(self._sizes))
        for size in list(self._sizes.values()):
            many = many // size
        return many

    def begun_at(self, slot):
        """The number of the orders that begin with the slot."""
        if self._sizes[slot] > 1:
            return 0
        many = self.total()
        # Without the slot, the sizes along its chain are smaller by one, and there is one slot less.
        for other in self._chain(slot)[1:]:
            many = many * self._sizes[other]
        for other in self._chain(slot)[1:]:
            many = many // (self._sizes[other] - 1)
        return many // len(self._sizes)

    def behind(self, slot):
        """The orders of the slots without this one, on which none may hang."""
        return Orders({other: self._held_by[other] for other in self._held_by if other != slot})

    def order_at(self, rank):
        """The order with this rank."""
        if rank >= self.total():
            raise InvalidNumber(rank)
        left = self
        order = []
        for _ in range(len(self._sizes)):
            slots = left.slots()
            number = 0
            while rank >= left.begun_at(slots[number]):
                rank = rank - left.begun_at(slots[number])
                number += 1
            order.append(slots[number])
            left = left.behind(slots[number])
        return order

    def rank_of(self, order):
        """The rank of one of these orders."""
        left = self
        rank = 0
        for slot in order:
            rank = rank + sum([left.begun_at(other) for other in left.slots() if other < slot])
            left = left.behind(slot)
        return rank

    def has_order(self, order):
        """True if the list of slots is one of these orders."""
        if sorted(order) != self.slots():
            return False
        places = {slot: place for place, slot in enumerate(order)}
        held = [(slot, other) for slot, other in self._held_by.items() if other is not None]
        return all([places[slot] < places[other] for slot, other in held])
