"""Scans: the ways through one stretch of a document, and the bytes that can come next on them.

A scan never changes; `after` gives the one behind a byte.
"""

from shortestbytes.counts import code_at, code_size, codes_of_size, least_second, number_at, number_code
from shortestbytes.kinds import OCTETS, TEXT
from shortestbytes.leaves import ranges_of_kind


def ranges_of(entries):
    """The bytes of a list as ranges (low, high) in ascending order, as few as possible."""
    found = []
    for entry in sorted(entries):
        if found and entry <= found[-1][1] + 1:
            found[-1] = (found[-1][0], entry)
        else:
            found.append((entry, entry))
    return found


def is_within(byte, ranges):
    """Whether a byte lies in one of the ranges."""
    return any([low <= byte <= high for low, high in ranges])


def code_scan(low, high, is_turned=False):
    """The way through the code of one of the numbers from low to high.

    If it is turned, each byte stands as 255 minus it.
    """
    return CodeScan((low, tuple(number_code(low))), (high, tuple(number_code(high))), is_turned, ())


class CodeScan:
    """The way through the code of a number from low to high, which are tuples of a number and its code.

    The bytes that were taken are kept not turned.
    """

    def __init__(self, low, high, is_turned, taken):
        self._low = low
        self._high = high
        self._is_turned = is_turned
        self._taken = taken

    def wants_byte(self):
        """Whether the code is not whole."""
        return not self._taken or len(self._taken) < code_size(self._taken[0])

    def ranges(self):
        """The bytes that can come next."""
        at = len(self._taken)
        low = least_second(self._taken[0]) if at == 1 else 0
        high = 255
        # Codes stand in the order of their numbers: the next byte is bound by the code of the least
        # or the greatest number only as long as the bytes taken are the same as in that code.
        if self._has_taken(self._low):
            low = self._low[1][at]
        if self._has_taken(self._high):
            high = self._high[1][at]
        return [(255 - high, 255 - low)] if self._is_turned else [(low, high)]

    def _has_taken(self, bound):
        """Whether the bytes taken are those with which the code of low or high begins."""
        _, code = bound
        return self._taken == code[:len(self._taken)]

    def after(self, byte):
        """The scan behind a byte that can come next."""
        digit = 255 - byte if self._is_turned else byte
        return CodeScan(self._low, self._high, self._is_turned, self._taken + (digit,))

    def short(self):
        """The byte with which a shortest code goes on."""
        low, high = self.ranges()[0]
        return high if self._is_turned else low

    def row(self):
        """The bytes that were taken, not turned, a new list."""
        return list(self._taken)

    def number_taken(self):
        """The number whose code was taken, once it is whole."""
        number, _ = number_at(self._taken)
        return number

    def least_number(self):
        """The least number that the code can still become."""
        return self._low[0] if self._has_taken(self._low) else self._filled(0)

    def greatest_number(self):
        """The greatest number that the code can still become."""
        return self._high[0] if self._has_taken(self._high) else self._filled(255)

    def _filled(self, byte):
        """The number of the code that goes on with this byte, or with the least one that can come, to its end."""
        row = self.row()
        while len(row) < code_size(row[0]):
            row.append(max(byte, least_second(row[0])) if len(row) == 1 else byte)
        return number_at(row)[0]

    def reachable(self, most):
        """The numbers up to most that the code can still become with up to so many bytes more: tuples of both."""
        taken = len(self._taken)
        numbers = range(self.least_number(), min(self.greatest_number(), most) + 1)
        found = [(number, len(number_code(number)) - taken) for number in numbers]
        return [(number, missing) for number, missing in found if missing <= most]

    def ways(self, most):
        """The ways to finish the code."""
        low, high, taken = self.least_number(), self.greatest_number(), len(self._taken)
        return [codes_of_size(low, high, taken + missing) for missing in range(most + 1)]


def signs_of(ranges):
    """The bytes of some ranges."""
    return [sign for low, high in ranges for sign in range(low, high + 1)]


def how_many_signs(ranges):
    """How many bytes some ranges have."""
    return sum([high + 1 - low for low, high in ranges])


def how_many_rows(base, size):
    """How many rows of a size there are if each entry is one of as many bytes as base tells."""
    many = 1
    for _ in range(size):
        many *= base
    return many


def place_of_content(content, ranges):
    """How many contents of the same size, which consist of bytes of the ranges, are less."""
    signs = signs_of(ranges)
    place = 0
    for byte in content:
        place = place * len(signs) + signs.index(byte)
    return place


class ContentScan:
    """The way through the content of a leaf of a kind, which has as many bytes as size tells.

    As a row it is not less than first and not greater than last, if these are not None; `at` bytes were taken.
    """

    def __init__(self, kind, size, first=None, last=None, at=0):
        self._kind = kind
        self._size = size
        self._first = first
        self._last = last
        self._at = at

    def wants_byte(self):
        """Whether the content is not whole."""
        return self._at < self._size

    def ranges(self):
        """The bytes that can come next."""
        least = 0 if self._first is None else self._first[self._at]
        most = 255 if self._last is None else self._last[self._at]
        signs = ranges_of_kind(self._kind)
        return [(max(low, least), min(high, most)) for low, high in signs if low <= most and high >= least]

    def after(self, byte):
        """The scan behind a byte that can come next."""
        # A bound is of no account any more once a byte is not the same as in it.
        first = self._first if self._first is not None and self._first[self._at] == byte else None
        last = self._last if self._last is not None and self._last[self._at] == byte else None
        return ContentScan(self._kind, self._size, first, last, self._at + 1)

    def missing(self):
        """How many bytes are to come."""
        return self._size - self._at

    def how_many(self):
        """How many ways there are to go on to the end."""
        ranges = ranges_of_kind(self._kind)
        many = how_many_rows(how_many_signs(ranges), self.missing())
        if self._last is not None:
            many = place_of_content(self._last[self._at:], ranges) + 1
        if self._first is not None:
            many -= place_of_content(self._first[self._at:], ranges)
        return many


def owed_by_key(row, taken):
    """The bytes of content that are missing of a key of which so many bytes, at least one, were taken."""
    if row[0] not in (OCTETS, TEXT):
        return 0
    size, end = code_at(row, 1, False)
    return size - max(0, taken - end)


class RowScan:
    """The way through one of several rows in ascending order, none of which is the beginning of another one."""

    def __init__(self, choices, at=0):
        self._choices = choices
        self._at = at

    def wants_byte(self):
        """Whether no row is whole."""
        return self._at < len(self._choices[0])

    def ranges(self):
        """The bytes that can come next."""
        return ranges_of([row[self._at] for row in self._choices])

    def after(self, byte):
        """The scan behind a byte that can come next."""
        return RowScan([row for row in self._choices if row[self._at] == byte], self._at + 1)

    def row(self):
        """The bytes that were taken, a new list."""
        return list(self._choices[0][:self._at])

    def rows_left(self):
        """The rows that it can still become, a new list."""
        return list(self._choices)

    def owed(self):
        """The bytes of content that are missing, if the rows are those of keys."""
        return owed_by_key(self._choices[0], self._at) if self._at > 0 else 0
