"""Leaves, the values that are no nests, and their documents."""

from shortestbytes.counts import MOST, is_byte, is_int, number_code
from shortestbytes.kinds import FALSE, INTEGER, NEGATIVE, NONE, OCTETS, TEXT, TRUE

# The characters that a text may have, and the ranges of their codes.
SIGNS = "\t\n !\"#$&'()*+,-./0123456789:;<=>?@ABCDEFGHIJKLMNOPQRSTUVWXYZ[\\]^_`abcdefghijklmnopqrstuvwxyz{|}~"
TEXT_RANGES = ((9, 10), (32, 36), (38, 126))
OCTET_RANGES = ((0, 255),)


def ranges_of_kind(kind):
    """The ranges of the bytes that the content of leaves of a kind, octets or text, may have."""
    return TEXT_RANGES if kind == TEXT else OCTET_RANGES


def is_integer_value(thing):
    """Whether any value is an integer that is a value."""
    return is_int(thing) and -1 - MOST <= thing <= MOST


def is_key(thing):
    """Whether any value is a key: an integer in range, octets or a text."""
    if isinstance(thing, str):
        return all([sign in SIGNS for sign in thing])
    if isinstance(thing, tuple):
        return all([is_byte(entry) for entry in thing])
    return is_integer_value(thing)


def is_leaf(thing):
    """Whether any value is a value that is no nest."""
    return thing is None or isinstance(thing, bool) or is_key(thing)


def integer_row(number):
    """The bytes of the document of an integer."""
    if number >= 0:
        return [INTEGER] + number_code(number)
    # The bytes are turned round so that of two negative integers the less has the less document.
    return [NEGATIVE] + [255 - byte for byte in number_code(-1 - number)]


def content_of(leaf):
    """The bytes of the content of octets or of a text, a new list; none for other leaves."""
    if isinstance(leaf, str):
        return [ord(sign) for sign in leaf]
    return list(leaf) if isinstance(leaf, tuple) else []


def text_of(codes):
    """The text whose characters have these codes."""
    table = {ord(sign): sign for sign in SIGNS}
    return "".join([table[code] for code in codes])


def leaf_row(leaf):
    """The bytes of the document of a leaf, a new list."""
    if leaf is None:
        return [NONE]
    if isinstance(leaf, bool):
        return [TRUE] if leaf else [FALSE]
    if isinstance(leaf, int):
        return integer_row(leaf)
    kind = OCTETS if isinstance(leaf, tuple) else TEXT
    return [kind] + number_code(len(leaf)) + content_of(leaf)
