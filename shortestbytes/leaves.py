"""Leaves, the values that are no nests, and their documents."""

from shortestbytes.counts import MOST, is_byte, is_int, number_code
from shortestbytes.kinds import FALSE, INTEGER, NEGATIVE, NONE, OCTETS, TEXT, TRUE

NEWLINE = 10
TAB = 9
SPACE = 32
PERCENT = 37
TILDE = 126


def is_text_code(code):
    """Whether a code is that of a character that a text may have."""
    return (SPACE <= code <= TILDE and code != PERCENT) or code in (NEWLINE, TAB)


def is_key(thing):
    """Whether any value is a key: an integer in range, octets or a text."""
    if isinstance(thing, str):
        return all([is_text_code(ord(sign)) for sign in thing])
    if isinstance(thing, tuple):
        return all([is_byte(entry) for entry in thing])
    return is_int(thing) and -1 - MOST <= thing <= MOST


def is_leaf(thing):
    """Whether any value is a value that is no nest."""
    return thing is None or isinstance(thing, bool) or is_key(thing)


def integer_row(number):
    """The bytes of the document of an integer."""
    if number >= 0:
        return [INTEGER] + number_code(number)
    # The bytes are turned round so that of two negative integers the less has the less document.
    return [NEGATIVE] + [255 - byte for byte in number_code(-1 - number)]


def leaf_row(leaf):
    """The bytes of the document of a leaf, a new list."""
    if leaf is None:
        return [NONE]
    if isinstance(leaf, bool):
        return [TRUE] if leaf else [FALSE]
    if isinstance(leaf, int):
        return integer_row(leaf)
    if isinstance(leaf, tuple):
        return [OCTETS] + number_code(len(leaf)) + list(leaf)
    return [TEXT] + number_code(len(leaf)) + [ord(sign) for sign in leaf]
