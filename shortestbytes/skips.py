"""Finding items in data by heads alone: what is skipped, and where a key of a map stands."""

from shortestbytes.counts import byte_at, code_at
from shortestbytes.errors import Unfinished
from shortestbytes.kinds import FALSE, LIST, MAP, NEGATIVE, NONE, OCTETS, TAG, TEXT, TRUE
from shortestbytes.values import DEEPEST

# The least and the greatest kind byte of items, of items that are no nests, and of keys.
ALL_KINDS = (1, 10)
LEAF_KINDS = (1, 7)
KEY_KINDS = (4, 7)


def looked_at(data, at, kinds):
    """The head at an index: its kind byte, which lies between two, the number in its code, and the index behind it."""
    low, high = kinds
    kind = byte_at(data, at, low, high)
    if kind in (NONE, FALSE, TRUE):
        return kind, 0, at + 1
    number, end = code_at(data, at + 1, kind == NEGATIVE)
    return kind, number, end


def kinds_at(level):
    """The least and the greatest kind byte of items at a level."""
    return ALL_KINDS if level <= DEEPEST else LEAF_KINDS


def skipped(data, at, level):
    """The index behind the item that begins at an index and has a level."""
    kind, number, end = looked_at(data, at, kinds_at(level))
    if kind in (OCTETS, TEXT):
        return behind_content(data, end, number)
    if kind == TAG:
        return skipped(data, end, level + 1)
    if kind in (LIST, MAP):
        for _ in range(number):
            begin = end if kind == LIST else key_end(data, end)
            end = skipped(data, begin, level + 1)
    return end


def behind_content(data, at, size):
    """The index behind a content of a size, which is not looked at."""
    if at + size > len(data):
        raise Unfinished(len(data))
    return at + size


def key_end(data, at):
    """The index behind the key that begins at an index."""
    kind, number, end = looked_at(data, at, KEY_KINDS)
    return behind_content(data, end, number) if kind in (OCTETS, TEXT) else end


def key_place(data, at, many, row):
    """Where the first key that is not less than the key with a row begins and ends, or None if there is none.

    The first of the keys, as many as told, is at an index; nothing behind that key or the last one is looked at.
    """
    for left in range(many, 0, -1):
        end = key_end(data, at)
        if list(data[at:end]) >= row:
            return at, end
        if left > 1:
            at = skipped(data, end, 1)
    return None
