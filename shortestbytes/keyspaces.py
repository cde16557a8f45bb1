"""The keys of a map whose keys are those of some shapes."""

from shortestbytes.items import worth_at
from shortestbytes.kinds import NEGATIVE
from shortestbytes.leaves import integer_row
from shortestbytes.scans import ranges_of
from shortestbytes.spans import leaf_scan
from shortestbytes.ways import either, no_way


def ways_of_spans(spans, most):
    """The ways to take a leaf of one of some spans whole."""
    found = no_way(most)
    for span in spans:
        found = either(found, span.ways(most))
    return found


def key_scan(spans):
    """The way through a key of one of several spans, each of another kind."""
    return KeyScan(spans, None, ())


class KeyScan:
    """The way through a key: the spans, the leaf, which is None at the beginning, and the bytes taken."""

    def __init__(self, spans, leaf, taken):
        self._spans = spans
        self._leaf = leaf
        self._taken = taken

    def wants_byte(self):
        """Whether the key is not whole."""
        return self._leaf is None or self._leaf.wants_byte()

    def ranges(self):
        """The bytes that can come next."""
        return ranges_of([span.kind for span in self._spans]) if self._leaf is None else self._leaf.ranges()

    def after(self, byte):
        """The scan behind a byte that can come next."""
        taken = self._taken + (byte,)
        if self._leaf is not None:
            return KeyScan(self._spans, self._leaf.after(byte), taken)
        leaf = [leaf_scan(span) for span in self._spans if span.kind == byte][0]
        return KeyScan(self._spans, leaf, taken)

    def row(self):
        """The bytes that were taken, a new list."""
        return list(self._taken)

    def owed(self):
        """The bytes of content that are missing at least, once the key has begun."""
        return 0 if self._leaf is None else self._leaf.owed()

    def ways(self, most):
        """The ways to finish the key."""
        return ways_of_spans(self._spans, most) if self._leaf is None else self._leaf.ways(most)

    def spans_behind(self):
        """The parts of the spans that are greater than all keys that this one can still become."""
        if self._leaf is None:
            return []
        found = [span for span in self._spans if span.kind > self._taken[0]]
        rest = self._leaf.span_behind(self.row())
        return found if rest is None else [rest] + found


class KeySpace:
    """All keys of some spans, each of another kind, in ascending order."""

    def __init__(self, spans):
        self._spans = spans
        self._counts = [span.many_leaves() for span in spans]
        # Counted exactly where it matters, that is up to the greatest number.
        self.many = sum(self._counts)

    def with_room(self, left):
        """The spans of the keys that have at least so many other keys behind them."""
        found = []
        for span, count in zip(self._spans[::-1], self._counts[::-1]):
            if left >= count:
                left -= count
            else:
                found.append(span.without_last(left))
                left = 0
        return found[::-1]

    def behind(self, row, left):
        """Of these spans what is greater than the key with this row; all, if the row is empty."""
        spans = self.with_room(left)
        if not row:
            return spans
        key, _ = worth_at(row, 0)
        cut = [span.behind(key) if span.kind == row[0] else span for span in spans if span.kind >= row[0]]
        return [span for span in cut if span is not None]

    def shortest(self, row, many):
        """The sizes of so many keys behind a row, the shortest ones: tuples (size, how many) in ascending order."""
        found = []
        for size, count in sorted([pair for span in self.behind(row, 0) for pair in span.sizes(many)]):
            if many > 0:
                found.append((size, min(many, count)))
                many -= min(many, count)
        return found

    def short_beginning(self, row, many):
        """The bytes with which the first of so many of the shortest keys behind a row begins."""
        sizes = self.shortest(row, many)
        longest = sizes[-1][0]
        # The spans with the sizes of their shortest keys; the first one that has some of the keys in question.
        choices = [(one, one.sizes(many)) for one in self.behind(row, 0)]
        span, own = [choice for choice in choices if choice[1][0][0] <= longest][0]
        if span.kind != NEGATIVE:
            # From here on the least key of the span is the shortest one, too.
            return [span.kind]
        # The shortest ones are the last ones; of the longest size no more are taken than needed.
        needed = sum([count for size, count in sizes if size == longest])
        shorter = sum([count for size, count in own if size < longest])
        return integer_row(span.from_end(shorter - 1 + min(needed, dict(own).get(longest, 0))))
