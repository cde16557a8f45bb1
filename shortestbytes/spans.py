"""Spans: the leaves of one kind from a first to a last one, in the order of their documents."""

from shortestbytes.kinds import INTEGER, NEGATIVE
from shortestbytes.leaves import content_of, ranges_of_kind
from shortestbytes.scans import CodeScan, ContentScan

# A count that is greater than that of the pairs of any map; no span is counted beyond it.
ENOUGH = 256 ** 64
# The greatest length that a shape can name. A span with a greater one goes on to the greatest number,
# and no data holds a content of that size whole: how many leaves lie behind it is never asked.
LONGEST_NAMED = 400


def next_content(content, ranges):
    """The next content of the same size, or None if there is none."""
    for at in range(len(content) - 1, -1, -1):
        for low, high in ranges:
            if content[at] < high:
                return content[:at] + [max(low, content[at] + 1)] + [ranges[0][0]] * (len(content) - 1 - at)
    return None


def sign_at(index, ranges):
    """The byte with this index among those of the ranges."""
    signs = [sign for low, high in ranges for sign in range(low, high + 1)]
    return signs[index]


def how_many_signs(ranges):
    """How many bytes the ranges have."""
    return sum([high - low + 1 for low, high in ranges])


def content_from_end(index, size, ranges):
    """The content of a size that has this index, counted from the last one."""
    base = how_many_signs(ranges)
    content = []
    for _ in range(size):
        content.append(sign_at(base - 1 - index % base, ranges))
        index //= base
    return content[::-1]


def how_many_contents(size, ranges):
    """How many contents of a size there are, or ENOUGH if there are not fewer."""
    base = how_many_signs(ranges)
    many = 1
    for _ in range(size):
        many *= base
        if many >= ENOUGH:
            return ENOUGH
    return many


class Span:
    """The integers from low to high; or the octets or texts with a length from low to high.

    Of those with the least length the content is not less than first, of those with the greatest
    length it is not greater than last, if these are not None.
    """

    def __init__(self, kind, low, high, first=None, last=None):
        self.kind = kind
        self._low = low
        self._high = high
        self._first = first
        self._last = last

    def code_scan(self):
        """A scan for the code behind the kind byte."""
        if self.kind == NEGATIVE:
            return CodeScan(-1 - self._high, -1 - self._low, True)
        return CodeScan(self._low, self._high)

    def content_scan(self, number):
        """A scan for what follows the code of a number."""
        if self._is_of_integers():
            return ContentScan(self.kind, 0)
        first = self._first if number == self._low else None
        last = self._last if number == self._high else None
        return ContentScan(self.kind, number, first, last)

    def _is_of_integers(self):
        return self.kind in (NEGATIVE, INTEGER)

    def many_leaves(self):
        """How many leaves there are, or ENOUGH or more; only for spans without first and last."""
        if self._is_of_integers():
            return self._high - self._low + 1
        if self._high > LONGEST_NAMED:
            return ENOUGH
        ranges = ranges_of_kind(self.kind)
        many = 0
        for size in range(self._low, self._high + 1):
            many += how_many_contents(size, ranges)
            if many >= ENOUGH:
                return ENOUGH
        return many

    def behind(self, leaf):
        """The part of the span that is greater than a leaf of its kind, or None if there is none."""
        if self._is_of_integers():
            return self._from(leaf + 1, None)
        content = next_content(content_of(leaf), ranges_of_kind(self.kind))
        return self._from(len(leaf) + 1 if content is None else len(leaf), content)

    def _from(self, low, first):
        """The part of the span that begins with low and first, or None if there is none."""
        return Span(self.kind, low, self._high, first, self._last) if low <= self._high else None

    def without_last(self, left):
        """The span without its last leaves, as many as left; only for spans without first and last."""
        if self._is_of_integers():
            return Span(self.kind, self._low, self._high - left)
        if self._high > LONGEST_NAMED:
            return self
        ranges = ranges_of_kind(self.kind)
        size = self._high
        while left >= how_many_contents(size, ranges):
            left -= how_many_contents(size, ranges)
            size -= 1
        return Span(self.kind, self._low, size, None, content_from_end(left, size, ranges))
