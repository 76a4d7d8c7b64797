"""Desks: a cache whose deeds can be undone and redone, and in which entries can be guarded."""

from lastside.caches import Cache
from lastside.checks import check_different_entries, check_entry, check_number, check_slot, is_number
from lastside.errors import CacheError, Guarded, InvalidDeed, InvalidEntry, InvalidNumber, InvalidSetting
from lastside.errors import NothingLeft, Resident
from lastside.flags import turned

MOST_CAPACITY = 1000
FIRST_CAPACITY = 100
RESHAPING = ("grow", "close")


class Done:
    """A deed that was done: how it is written, its lines, and the cache behind it. An object does not change."""

    def __init__(self, deed, run, after):
        self.deed = deed
        self.run = run
        self.after = after


def answered(cache, entries, guarded):
    """The cache behind requests for these entries, and the answers; Guarded if one would evict a guarded entry."""
    after = cache.twin()
    answers = []
    for entry in entries:
        evicted = after.at(after.victim)
        if entry not in after and evicted in guarded:
            raise Guarded(evicted)
        answers.append(after.request(entry))
    return (after, answers)


def hit_done(cache, slot):
    """A hit at the slot of the cache, done on a copy."""
    after = cache.twin()
    after.hit(slot)
    return Done(("hit", slot), [("hit", slot)], after)


def requests_done(cache, deed, entries, guarded):
    """Requests for these entries, done on a copy of the cache, and the answers."""
    after, answers = answered(cache, entries, guarded)
    return (Done(deed, [(kind, slot) for kind, slot, evicted in answers], after), answers)


def grow_done(cache, slot, entry):
    """Growing the slot of the cache, done on a copy."""
    check_slot(cache.tree, slot)
    check_entry(entry)
    if entry in cache:
        raise Resident(entry)
    grown = cache.tree.grown(slot)
    entries = cache.listed()
    # The side that the new fork shows at first does not matter: it lies on the path that turns.
    flags = turned(grown, cache.flags[:slot] + "L" + cache.flags[slot:], slot + 1)
    after = Cache(grown, flags, entries[:slot + 1] + [entry] + entries[slot + 1:])
    return Done(("grow", slot, entry), [], after)


def close_done(cache, slot, guarded):
    """Closing the slot of the cache, done on a copy."""
    closed = cache.tree.closed(slot)
    entries = cache.listed()
    if entries[slot] in guarded:
        raise Guarded(entries[slot])
    fork, _ = cache.tree.path(slot)[-1]
    flags = cache.flags[:fork] + cache.flags[fork + 1:]
    return Done(("close", slot), [], Cache(closed, flags, entries[:slot] + entries[slot + 1:]))


def check_served(entries):
    """Raises InvalidEntry for the first of these values that is not an entry."""
    for entry in entries:
        check_entry(entry)


def check_setting(name, value):
    """Raises the error of a setting that is not right."""
    if name == "capacity":
        if not is_number(value, 0, MOST_CAPACITY):
            raise InvalidNumber(value)
    elif name == "guarded":
        if not isinstance(value, list):
            raise InvalidEntry(value)
        check_different_entries(value, 0, len(value))
    else:
        raise InvalidSetting(name)


class Desk:
    """A desk that leads one cache."""

    def __init__(self, cache):
        self._first = cache.twin()
        self._done = []
        self._undone = []
        self._undoable = 0
        self._capacity = FIRST_CAPACITY
        self._guarded = []

    def _now(self):
        """The present cache itself; no deed changes it."""
        return self._done[-1].after if len(self._done) > 0 else self._first

    def _take(self, done):
        """Takes a new deed, which discards those that could be redone."""
        self._done.append(done)
        self._undone = []
        self._undoable = min(self._undoable + 1, self._capacity)

    def request(self, entry):
        """Answers a request for the entry as a cache does."""
        check_entry(entry)
        done, answers = requests_done(self._now(), ("request", entry), [entry], self._guarded)
        self._take(done)
        return answers[0]

    def hit(self, slot):
        """A hit at the slot; returns its entry."""
        self._take(hit_done(self._now(), slot))
        return self._now().at(slot)

    def serve(self, *entries):
        """Requests for the entries as one deed; returns the list of the answers."""
        check_served(entries)
        done, answers = requests_done(self._now(), ("serve", entries), entries, self._guarded)
        if len(entries) > 0:
            self._take(done)
        return answers

    def attempt(self, *entries):
        """What serving the entries would return or raise; the desk does not change."""
        check_served(entries)
        _, answers = answered(self._now(), entries, self._guarded)
        return answers

    def grow(self, slot, entry):
        """Grows the slot and puts the entry into the new slot behind it."""
        self._take(grow_done(self._now(), slot, entry))

    def close(self, slot):
        """Closes the slot; returns its entry."""
        before = self._now()
        self._take(close_done(before, slot, self._guarded))
        return before.at(slot)

    def undo(self, count=1):
        """Undoes so many deeds."""
        check_number(count, 1, None)
        if count > self._undoable:
            raise NothingLeft(self._undoable)
        for _ in range(count):
            self._undone.append(self._done.pop())
        self._undoable = self._undoable - count

    def redo(self, count=1):
        """Redoes so many deeds."""
        check_number(count, 1, None)
        if count > len(self._undone):
            raise NothingLeft(len(self._undone))
        for _ in range(count):
            self._done.append(self._undone.pop())
        self._undoable = min(self._undoable + count, self._capacity)

    def cache(self):
        """A twin of the present cache."""
        return self._now().twin()

    def deeds(self):
        """The list of the deeds."""
        return [done.deed for done in self._done]

    def _reshaped(self):
        """The number of deeds up to the last growing or closing, 0 if there is none."""
        places = [place for place, done in enumerate(self._done, start=1) if done.deed[0] in RESHAPING]
        return max(places, default=0)

    def base(self):
        """A twin of the cache as it was behind the last growing or closing, or at the beginning."""
        many = self._reshaped()
        return self._done[many - 1].after.twin() if many > 0 else self._first.twin()

    def lines(self):
        """The run that leads from the base to the present cache."""
        return [line for done in self._done[self._reshaped():] for line in done.run]

    def branch(self):
        """An independent desk with the same cache, deeds, settings, and the same deeds to undo and redo."""
        desk = Desk(self._first)
        desk._done = list(self._done)
        desk._undone = list(self._undone)
        desk._undoable = self._undoable
        desk._capacity = self._capacity
        desk._guarded = list(self._guarded)
        return desk

    @property
    def misses(self):
        """The number of loads among all requests of the deeds."""
        return len([kind for done in self._done for kind, slot in done.run if kind == "load"])

    @property
    def capacity(self):
        """The greatest number of deeds that can be undone."""
        return self._capacity

    @capacity.setter
    def capacity(self, value):
        self.configure(capacity=value)

    def configure(self, **settings):
        """Sets one or both of `capacity` and `guarded`."""
        for name, value in settings.items():
            check_setting(name, value)
        self._capacity = settings.get("capacity", self._capacity)
        self._guarded = list(settings.get("guarded", self._guarded))
        self._undoable = min(self._undoable, self._capacity)

    def settings(self):
        """The settings by their names."""
        return {"capacity": self._capacity, "guarded": list(self._guarded)}


def deed_done(cache, deed):
    """The deed, done on a copy of the cache without guarded entries; None for every value of another form."""
    if not isinstance(deed, tuple) or len(deed) not in (2, 3):
        return None
    word = deed[0]
    if word == "grow" and len(deed) == 3:
        return grow_done(cache, deed[1], deed[2])
    if len(deed) == 3:
        return None
    if word == "hit":
        return hit_done(cache, deed[1])
    if word == "close":
        return close_done(cache, deed[1], [])
    entries = deed[1] if word == "serve" else (deed[1],)
    if word not in ("request", "serve") or not isinstance(entries, tuple) or len(entries) == 0:
        return None
    done, _ = requests_done(cache, deed, entries, [])
    return done


def replay(cache, deeds):
    """The cache behind the deeds on a twin of the cache."""
    if not isinstance(deeds, list):
        raise InvalidDeed(-1)
    now = cache.twin()
    for index, deed in enumerate(deeds):
        try:
            done = deed_done(now, deed)
        except CacheError:
            raise InvalidDeed(index) from None
        if done is None:
            raise InvalidDeed(index)
        now = done.after
    return now
