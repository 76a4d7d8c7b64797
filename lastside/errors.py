"""The errors that the program raises.

Each class takes its attributes as positional parameters, in the order in which it sets them.
"""


class CacheError(ValueError):
    """The base class of all errors that the program raises."""


class InvalidTree(CacheError):
    """The value is not the text of a tree."""

    def __init__(self, text):
        self.text = text


class InvalidFlags(CacheError):
    """The value is not flags, a pattern or marks of the tree."""

    def __init__(self, flags):
        self.flags = flags


class InvalidSlot(CacheError):
    """The value is not a slot, or not the slots that are meant."""

    def __init__(self, slot):
        self.slot = slot


class InvalidFork(CacheError):
    """The value is not a fork of the tree."""

    def __init__(self, fork):
        self.fork = fork


class InvalidSide(CacheError):
    """The value is not a side."""

    def __init__(self, side):
        self.side = side


class InvalidLine(CacheError):
    """The element at this index is not a line; -1 stands for the whole run."""

    def __init__(self, index):
        self.index = index


class InvalidRow(CacheError):
    """The element at this index is not a row; -1 stands for the whole list."""

    def __init__(self, index):
        self.index = index


class InvalidNumber(CacheError):
    """The value is not an integer within the bounds."""

    def __init__(self, number):
        self.number = number


class InvalidEntry(CacheError):
    """The value is not an entry, or not the entries that are meant."""

    def __init__(self, entry):
        self.entry = entry


class InvalidText(CacheError):
    """The part at this index is not a written form; -1 stands for the whole text."""

    def __init__(self, index):
        self.index = index


class InvalidRule(CacheError):
    """The value is not a rule."""

    def __init__(self, rule):
        self.rule = rule


class InvalidItem(CacheError):
    """The element at this index is not an item; -1 stands for the whole value."""

    def __init__(self, index):
        self.index = index


class InvalidClaim(CacheError):
    """The value is not a claim on the trace."""

    def __init__(self, claim):
        self.claim = claim


class InvalidDeed(CacheError):
    """The element at this index is not a deed that can be done; -1 stands for the whole value."""

    def __init__(self, index):
        self.index = index


class InvalidSetting(CacheError):
    """There is no setting of this name."""

    def __init__(self, name):
        self.name = name


class BrokenRun(CacheError):
    """The run breaks at this index, at this fork."""

    def __init__(self, index, fork):
        self.index = index
        self.fork = fork


class TooMany(CacheError):
    """There are more things than the function takes; `most` is the greatest number."""

    def __init__(self, most):
        self.most = most


class Contradiction(CacheError):
    """The claim cannot be true together with what is known."""

    def __init__(self, claim):
        self.claim = claim


class Refused(CacheError):
    """The base class of the refusals of a desk."""


class Guarded(Refused):
    """The deed would remove a guarded entry."""

    def __init__(self, entry):
        self.entry = entry


class Resident(Refused):
    """The entry is in the cache already."""

    def __init__(self, entry):
        self.entry = entry


class NothingLeft(Refused):
    """Only this number of deeds can be undone or redone."""

    def __init__(self, number):
        self.number = number
