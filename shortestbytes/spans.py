"""Spans, the leaves of one kind from a first to a last one in the order of their documents, and the way through one."""

from shortestbytes.counts import codes_of_size, number_code
from shortestbytes.kinds import INTEGER, NEGATIVE
from shortestbytes.leaves import content_of, ranges_of_kind
from shortestbytes.scans import ContentScan, code_scan, how_many_signs, signs_of
from shortestbytes.ways import later, no_way

# A count that is greater than that of the pairs of any map; no span is counted beyond it.
ENOUGH = 256 ** 64
# The greatest length that a shape can name. A span with a greater one goes on to the greatest number,
# and no data holds a content of that size whole: how many leaves lie behind it is never asked.
LONGEST_NAMED = 400
# The greatest count of bytes of the code of a number.
LONGEST_CODE = 64


def next_content(content, ranges):
    """The next content of the same size, or None if there is none."""
    for at in range(len(content) - 1, -1, -1):
        for low, high in ranges:
            if content[at] < high:
                return content[:at] + [max(low, content[at] + 1)] + [ranges[0][0]] * (len(content) - 1 - at)
    return None


def content_from_end(index, size, ranges):
    """The content of a size that has this index, counted from the last one."""
    signs = signs_of(ranges)
    content = []
    for _ in range(size):
        content.append(signs[-1 - index % len(signs)])
        index //= len(signs)
    return content[::-1]


def how_many_contents(size, ranges):
    """How many contents of a size there are, or ENOUGH if there are not fewer."""
    base = how_many_signs(ranges)
    many = 1
    for _ in range(size):
        many *= base
        if many >= ENOUGH:
            return ENOUGH
    return many


class Span:
    """The integers from low to high; or the octets or texts with a length from low to high.

    Of those with the least length the content is not less than first, of those with the greatest
    length it is not greater than last, if these are not None.
    """

    def __init__(self, kind, low, high, first=None, last=None):
        self.kind = kind
        self._low = low
        self._high = high
        self._first = first
        self._last = last

    def code_scan(self):
        """The way through the code behind the kind byte."""
        if self.kind == NEGATIVE:
            return code_scan(-1 - self._high, -1 - self._low, True)
        return code_scan(self._low, self._high)

    def content_scan(self, number):
        """The way through what follows the code of a number."""
        if self.is_of_integers():
            return ContentScan(self.kind, 0)
        first = self._first if number == self._low else None
        last = self._last if number == self._high else None
        return ContentScan(self.kind, number, first, last)

    def is_of_integers(self):
        """Whether the leaves are integers."""
        return self.kind in (NEGATIVE, INTEGER)

    def many_leaves(self):
        """How many leaves there are, or ENOUGH or more; only for spans without first and last."""
        if self.is_of_integers():
            return self._high - self._low + 1
        if self._high > LONGEST_NAMED:
            return ENOUGH
        ranges = ranges_of_kind(self.kind)
        many = 0
        for size in range(self._low, self._high + 1):
            many += how_many_contents(size, ranges)
            if many >= ENOUGH:
                return ENOUGH
        return many

    def behind(self, leaf):
        """The part of the span that is greater than a leaf of its kind, or None if there is none."""
        if self.is_of_integers():
            return self.beginning_with(leaf + 1, None)
        return self.behind_content(len(leaf), content_of(leaf))

    def behind_content(self, size, begun):
        """Of octets or texts the part that is greater than all of a size whose content begins so, or None."""
        ranges = ranges_of_kind(self.kind)
        following = next_content(begun, ranges)
        if following is None:
            return self.beginning_with(size + 1, None)
        return self.beginning_with(size, following + [ranges[0][0]] * (size - len(begun)))

    def beginning_with(self, low, first):
        """The part of the span that begins with low and first, or None if there is none."""
        return Span(self.kind, low, self._high, first, self._last) if low <= self._high else None

    def without_last(self, left):
        """The span without its last leaves, as many as left; only for spans without first and last."""
        if self.is_of_integers():
            return Span(self.kind, self._low, self._high - left)
        if self._high > LONGEST_NAMED:
            return self
        ranges = ranges_of_kind(self.kind)
        size = self._high
        while left >= how_many_contents(size, ranges):
            left -= how_many_contents(size, ranges)
            size -= 1
        return Span(self.kind, self._low, size, None, content_from_end(left, size, ranges))

    def from_end(self, index):
        """The integer with this index, counted from the last one."""
        return self._high - index

    def sizes(self, many):
        """Tuples (size of a document, how many leaves have it) in ascending order, as far as needed for so many."""
        first, last = (1, LONGEST_CODE) if self.is_of_integers() else (self._low, self._high)
        found = []
        for step in range(first, last + 1):
            if many == 0:
                break
            size, count = self._size_at(step)
            if count > 0:
                found.append((size, min(many, count)))
                many -= min(many, count)
        return found

    def _size_at(self, step):
        """The size of the documents with a size of the code, or with a length, and how many leaves have it."""
        if self.is_of_integers():
            low, high = (self._low, self._high) if self.kind == INTEGER else (-1 - self._high, -1 - self._low)
            return 1 + step, codes_of_size(low, high, step)
        return 1 + len(number_code(step)) + step, self.content_scan(step).how_many()

    def ways(self, most):
        """The ways to take a leaf whole, its kind byte included."""
        return later(leaf_scan(self).ways(most - 1), 1) if most > 0 else no_way(most)


def leaf_scan(span):
    """The way through what stands behind the kind byte of a leaf of a span."""
    return LeafScan(span, span.code_scan(), None)


class LeafScan:
    """The way through a leaf of a span: through its code, and then through its content, which is None before."""

    def __init__(self, span, code, content):
        self._span = span
        self._code = code
        self._content = content

    def wants_byte(self):
        """Whether the leaf is not whole."""
        return self._content is None or self._content.wants_byte()

    def ranges(self):
        """The bytes that can come next."""
        return self._code.ranges() if self._content is None else self._content.ranges()

    def after(self, byte):
        """The scan behind a byte that can come next."""
        if self._content is not None:
            return LeafScan(self._span, self._code, self._content.after(byte))
        code = self._code.after(byte)
        content = None if code.wants_byte() else self._span.content_scan(code.number_taken())
        return LeafScan(self._span, code, content)

    def advanced(self):
        """The scan itself, and no item within it."""
        return self, None

    def owed(self):
        """The bytes of content that are missing at least."""
        if self._span.is_of_integers():
            return 0
        return self._code.least_number() if self._content is None else self._content.missing()

    def short(self):
        """The bytes with which a shortest leaf goes on, one or more."""
        return [self._code.short()] if self._content is None else [self._content.ranges()[0][0]]

    def least_size(self):
        """The least count of bytes of the whole leaf behind its kind byte."""
        least = self._code.least_number()
        return len(number_code(least)) + (0 if self._span.is_of_integers() else least)

    def ways(self, most):
        """The ways to finish the leaf."""
        if self._span.is_of_integers():
            return self._code.ways(most)
        found = no_way(most)
        if self._content is None:
            for size, missing in self._code.reachable(most):
                if missing + size <= most:
                    found[missing + size] += self._span.content_scan(size).how_many()
        elif self._content.missing() <= most:
            found[self._content.missing()] = self._content.how_many()
        return found

    def span_behind(self, row):
        """The part of the span that is greater than all leaves that begin with the row that was taken, or None."""
        if self._span.kind == NEGATIVE:
            return self._span.beginning_with(-self._code.least_number(), None)
        if self._span.is_of_integers() or self._content is None:
            return self._span.beginning_with(self._code.greatest_number() + 1, None)
        return self._span.behind_content(self._code.number_taken(), row[1 + len(self._code.row()):])
