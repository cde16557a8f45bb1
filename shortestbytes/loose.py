"""Loose documents, and how they are shortened."""

from shortestbytes.counts import FIRST_LONG, LAST_FIRST, LONG, is_byte, number_code
from shortestbytes.documents import Document
from shortestbytes.errors import DuplicateKey, Unfinished, WrongByte
from shortestbytes.kinds import INTEGER, LIST, MAP, NEGATIVE, TAG, TRUE
from shortestbytes.leaves import integer_row, ranges_of_kind
from shortestbytes.scans import is_within
from shortestbytes.values import DEEPEST

# What is given in pieces begins with the kind byte of the pieces plus APART, and ends with NO_PIECE.
APART = 5
NO_PIECE = 0
GAP = 15

BYTES = ((0, 255),)
# The bytes that can stand where the kind byte of an item, of one at level 25, or of a key must come.
ITEM_KINDS = ((1, 15),)
LEAF_KINDS = ((1, 7), (11, 12), (15, 15))
KEY_KINDS = ((4, 7), (11, 12), (15, 15))


def shorten(data):
    """The Document that a loose document is shortened to."""
    walk = Walk(data)
    row = item_row(walk, 1)
    if walk.at < len(data):
        raise WrongByte(walk.at)
    return Document(row)


class Walk:
    """Goes through loose data from left to right; `at` is the index of the next entry."""

    def __init__(self, data):
        self._data = data
        self.at = 0

    def take(self, ranges):
        """The next entry, which must be a byte in one of the ranges."""
        if self.at == len(self._data):
            raise Unfinished(self.at)
        entry = self._data[self.at]
        if not is_byte(entry) or not is_within(entry, ranges):
            raise WrongByte(self.at)
        self.at += 1
        return entry

    def take_kind(self, ranges):
        """The next byte behind all gaps; it must be in one of the ranges, as the first bytes of gaps are."""
        kind = self.take(ranges)
        while kind == GAP:
            for _ in range(self.take_number(False)):
                self.take(BYTES)
            kind = self.take(ranges)
        return kind

    def take_number(self, is_turned):
        """The number whose loose code comes next; if it is turned, each byte stands as 255 minus it."""
        first = self._take_digit(LAST_FIRST, is_turned)
        if first < FIRST_LONG:
            return first
        number = 0
        for _ in range(first - LONG):
            number = number * 256 + self._take_digit(255, is_turned)
        return number

    def _take_digit(self, high, is_turned):
        """The next byte, up to a greatest one before it is turned."""
        return 255 - self.take(((255 - high, 255),)) if is_turned else self.take(((0, high),))


class Content:
    """The content of octets or of a text, which is gathered piece by piece."""

    def __init__(self, kind):
        self._kind = kind
        self._content = []

    def gather(self, walk):
        """Takes one more byte."""
        self._content.append(walk.take(ranges_of_kind(self._kind)))

    def row(self):
        """The bytes of the document of what was gathered."""
        return [self._kind] + number_code(len(self._content)) + self._content


class Items:
    """The items of a list, which are gathered piece by piece."""

    def __init__(self, level):
        self._level = level
        self._many = 0
        self._row = []

    def gather(self, walk):
        """Takes one more item."""
        self._row.extend(list(item_row(walk, self._level)))
        self._many += 1

    def row(self):
        """The bytes of the document of what was gathered."""
        return [LIST] + number_code(self._many) + self._row


class Pairs:
    """The pairs of a map, which are gathered piece by piece."""

    def __init__(self, level):
        self._level = level
        # From the row of each key to that of its value.
        self._table = {}

    def gather(self, walk):
        """Takes one more pair, whose key is another one than those before."""
        kind = walk.take_kind(KEY_KINDS)
        at = walk.at - 1
        key = tuple(row_behind(walk, kind, self._level))
        if key in self._table:
            raise DuplicateKey(at)
        self._table[key] = item_row(walk, self._level)

    def row(self):
        """The bytes of the document of what was gathered."""
        found = [MAP] + number_code(len(self._table))
        for key in sorted(list(self._table)):
            found.extend(list(key) + self._table[key])
        return found


def item_row(walk, level):
    """The bytes of the document of the loose item at a level that comes next."""
    kind = walk.take_kind(ITEM_KINDS if level <= DEEPEST else LEAF_KINDS)
    return row_behind(walk, kind, level)


def row_behind(walk, kind, level):
    """The bytes of the document of a loose item whose kind byte has been taken."""
    if kind <= TRUE:
        return [kind]
    if kind == NEGATIVE:
        return integer_row(-1 - walk.take_number(True))
    if kind == INTEGER:
        return integer_row(walk.take_number(False))
    if kind == TAG:
        number = walk.take_number(False)
        return [TAG] + number_code(number) + item_row(walk, level + 1)
    piece = kind if kind < TAG else kind - APART
    whole = empty_whole(piece, level + 1)
    if kind == piece:
        gather_piece(walk, whole)
    else:
        while walk.take_kind(((NO_PIECE, NO_PIECE), (piece, piece), (GAP, GAP))) != NO_PIECE:
            gather_piece(walk, whole)
    return whole.row()


def empty_whole(kind, level):
    """What gathers the pieces with a kind byte, in which the parts have a level."""
    if kind == MAP:
        return Pairs(level)
    return Items(level) if kind == LIST else Content(kind)


def gather_piece(walk, whole):
    """Takes a piece whose kind byte has been taken."""
    for _ in range(walk.take_number(False)):
        whole.gather(walk)
