"""The cuts of rows into blocks, and the ways of merging two sides."""

from lastside.checks import check_number, is_row
from lastside.errors import InvalidRow
from lastside.merging import block_count, choose, merge_count


def check_row(row):
    """Raises InvalidRow(0) for every value that is not a row."""
    if not is_row(row):
        raise InvalidRow(0)


def least_blocks(row):
    """The least number of blocks into which the row can be cut."""
    check_row(row)
    return block_count(row)


def cut_count(row, blocks):
    """The number of cuts of the row into so many blocks."""
    check_row(row)
    check_number(blocks, 0, None)
    least = block_count(row)
    return choose(len(row) - least, blocks - least)


def next_choice(chosen, total):
    """The next choice of as many ascending numbers below total, or None behind the last one."""
    many = len(chosen)
    at = many - 1
    while at >= 0 and chosen[at] == total - many + at:
        at -= 1
    if at < 0:
        return None
    return chosen[:at] + [chosen[at] + 1 + step for step in range(many - at)]


def cut_at(row, places):
    """The blocks of the row, each but the first beginning at one of these places."""
    if row == "":
        return []
    ends = places + [len(row)]
    return [row[begin:end] for begin, end in zip([0] + places, ends)]


def each_cut(row, blocks):
    """All cuts of the row into so many blocks, by their lists of lengths."""
    if cut_count(row, blocks) == 0:
        return
    # A load begins a block; in front of each other letter the row may be cut or not.
    forced = [place for place in range(1, len(row)) if row[place] == "l"]
    free = [place for place in range(1, len(row)) if row[place] == "h"]
    chosen = list(range(blocks - block_count(row)))
    while chosen is not None:
        yield cut_at(row, sorted(forced + [free[number] for number in chosen]))
        chosen = next_choice(chosen, len(free))


def merges(length, least, other_length, other_least, *, same):
    """The number of ways in which a beginning side and another side can be merged into a valid talk."""
    check_number(length, 1, None)
    check_number(least, 0, None)
    check_number(other_length, 0, None)
    check_number(other_least, 0, None)
    return merge_count(length, least, other_length, other_least, same)
