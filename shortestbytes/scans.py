"""Scans: each takes the bytes of one stretch of a document and knows which bytes can come next."""

from shortestbytes.counts import code_size, least_second, number_at, number_code
from shortestbytes.leaves import ranges_of_kind


def ranges_of(entries):
    """The bytes of a list as ranges (low, high) in ascending order, as few as possible."""
    found = []
    for entry in sorted(entries):
        if found and entry <= found[-1][1] + 1:
            found[-1] = (found[-1][0], entry)
        else:
            found.append((entry, entry))
    return found


def is_within(byte, ranges):
    """Whether a byte lies in one of the ranges."""
    return any([low <= byte <= high for low, high in ranges])


class CodeScan:
    """Takes the code of one of the numbers from low to high.

    If it is turned, each byte stands as 255 minus it.
    """

    def __init__(self, low, high, is_turned=False):
        self._low = number_code(low)
        self._high = number_code(high)
        self._is_turned = is_turned
        self._taken = []

    def wants_byte(self):
        """Whether the code is not whole."""
        return not self._taken or len(self._taken) < code_size(self._taken[0])

    def ranges(self):
        """The bytes that can come next."""
        at = len(self._taken)
        low = least_second(self._taken[0]) if at == 1 else 0
        high = 255
        # Codes stand in the order of their numbers: the next byte is bound by the code of the least
        # or the greatest number only as long as the bytes taken are the same as in that code.
        if self._taken == self._low[:at]:
            low = self._low[at]
        if self._taken == self._high[:at]:
            high = self._high[at]
        return [(255 - high, 255 - low)] if self._is_turned else [(low, high)]

    def take(self, byte):
        """Takes a byte that can come next."""
        self._taken.append(255 - byte if self._is_turned else byte)

    def row(self):
        """The code that was taken, not turned, a new list."""
        return list(self._taken)

    def number_taken(self):
        """The number whose code was taken, once it is whole."""
        number, _ = number_at(self._taken)
        return number


class ContentScan:
    """Takes the content of a leaf of a kind: as many bytes as size tells.

    As a row it is not less than first and not greater than last, if these are not None.
    """

    def __init__(self, kind, size, first=None, last=None):
        self._signs = ranges_of_kind(kind)
        self._size = size
        self._first = first
        self._last = last
        self._at = 0
        self._is_at_first = first is not None
        self._is_at_last = last is not None

    def wants_byte(self):
        """Whether the content is not whole."""
        return self._at < self._size

    def ranges(self):
        """The bytes that can come next."""
        least = self._first[self._at] if self._is_at_first else 0
        most = self._last[self._at] if self._is_at_last else 255
        return [(max(low, least), min(high, most)) for low, high in self._signs if low <= most and high >= least]

    def take(self, byte):
        """Takes a byte that can come next."""
        if self._is_at_first:
            self._is_at_first = byte == self._first[self._at]
        if self._is_at_last:
            self._is_at_last = byte == self._last[self._at]
        self._at += 1


class RowScan:
    """Takes one of several rows, none of which is the beginning of another one."""

    def __init__(self, choices):
        self._choices = choices
        self._at = 0

    def wants_byte(self):
        """Whether no row is whole."""
        return self._at < len(self._choices[0])

    def ranges(self):
        """The bytes that can come next."""
        return ranges_of([row[self._at] for row in self._choices])

    def take(self, byte):
        """Takes a byte that can come next."""
        self._choices = [row for row in self._choices if row[self._at] == byte]
        self._at += 1

    def row(self):
        """The row that was taken, once it is whole, a new list."""
        return list(self._choices[0])


class LeafScan:
    """Takes what stands behind the kind byte of a leaf of a span."""

    def __init__(self, span):
        self._span = span
        self._code = span.code_scan()
        self._content = None

    def wants_byte(self):
        """Whether the leaf is not whole."""
        return self._content is None or self._content.wants_byte()

    def ranges(self):
        """The bytes that can come next."""
        return self._code.ranges() if self._content is None else self._content.ranges()

    def take(self, byte):
        """Takes a byte that can come next."""
        if self._content is not None:
            self._content.take(byte)
            return
        self._code.take(byte)
        if not self._code.wants_byte():
            self._content = self._span.content_scan(self._code.number_taken())

    def advance(self):
        """Nothing follows within a leaf that is whole."""
        return None


class KeyScan:
    """Takes a key of one of several spans, each of another kind."""

    def __init__(self, spans):
        self._spans = {span.kind: span for span in spans}
        self._leaf = None
        self._taken = []

    def wants_byte(self):
        """Whether the key is not whole."""
        return self._leaf is None or self._leaf.wants_byte()

    def ranges(self):
        """The bytes that can come next."""
        return ranges_of(list(self._spans)) if self._leaf is None else self._leaf.ranges()

    def take(self, byte):
        """Takes a byte that can come next."""
        if self._leaf is None:
            self._leaf = LeafScan(self._spans[byte])
        else:
            self._leaf.take(byte)
        self._taken.append(byte)

    def row(self):
        """The bytes of the key that were taken, a new list."""
        return list(self._taken)
