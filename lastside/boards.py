"""Boards: claims that are told about a trace, and all that then surely holds."""

from lastside.claims import check_claim, claims_of_flags, claims_of_lines, is_claim
from lastside.errors import Contradiction
from lastside.following import Film
from lastside.sightings import REQUESTS, check_trace


def film_of(tree, items, claims):
    """The film in which these claims are true."""
    return Film(tree, items, [(claim, True) for claim in claims])


def lot_of(tree, items, claims):
    """All claims that are true in every history in which these claims are true, in the order of a lot."""
    film = film_of(tree, items, claims)
    rows = film.possible()
    lot = []
    for moment, flags in enumerate(rows):
        lot.extend(claims_of_flags(tree, moment, flags))
        if moment < len(items) and items[moment][0] in REQUESTS:
            lot.extend(claims_of_lines(tree, moment, film.possible_lines(moment, rows)))
    return lot


def check_together(tree, items, told, claims):
    """Raises Contradiction for the first of these claims that cannot be true with what was told before it."""
    if film_of(tree, items, told + claims).has_history():
        return
    # Claims that are added never allow more, so the first wrong one is found by halving.
    low = 0
    high = len(claims) - 1
    while low < high:
        middle = (low + high) // 2
        if film_of(tree, items, told + claims[:middle + 1]).has_history():
            low = middle + 1
        else:
            high = middle
    raise Contradiction(claims[low])


class Board:
    """The claims that are told about a trace."""

    def __init__(self, tree, items):
        check_trace(tree, items)
        if not film_of(tree, items, []).has_history():
            raise Contradiction(None)
        self._tree = tree
        self._trace = list(items)
        self._claims = []
        self._lot = lot_of(tree, items, [])

    def tell(self, *claims):
        """Tells the claims."""
        more = list(claims)
        for claim in more:
            check_claim(self._tree, self._trace, claim)
        check_together(self._tree, self._trace, self._claims, more)
        self._claims = self._claims + more
        self._lot = lot_of(self._tree, self._trace, self._claims)

    def told(self):
        """The told claims in the order of telling."""
        return list(self._claims)

    def lot(self):
        """All claims that surely hold, in their order."""
        return list(self._lot)

    def __contains__(self, claim):
        return is_claim(self._tree, self._trace, claim) and claim in self._lot

    def __add__(self, other):
        if not isinstance(other, Board):
            return NotImplemented
        if self._tree != other._tree or self._trace != other._trace:
            raise Contradiction(None)
        return board_with(self._tree, self._trace, self._claims + other._claims)

    def twin(self):
        """A board with the same trace and told claims that changes independently."""
        return board_with(self._tree, self._trace, self._claims)


def board_with(tree, items, claims):
    """A new board of the trace to which these claims are told."""
    board = Board(tree, items)
    check_together(tree, items, [], claims)
    board._claims = list(claims)
    board._lot = lot_of(tree, items, claims)
    return board
