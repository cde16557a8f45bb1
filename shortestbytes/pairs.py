"""The pairs of a map that is being read: which key can come next, and the form of its value."""

from shortestbytes.items import worth_at
from shortestbytes.scans import KeyScan, RowScan


class KeySpace:
    """All keys of some spans, each of another kind, in ascending order."""

    def __init__(self, spans):
        self._spans = spans
        self._sizes = [span.many_leaves() for span in spans]
        # Counted exactly where it matters, that is up to the greatest number.
        self.many = sum(self._sizes)

    def with_room(self, left):
        """The spans of the keys that have at least so many other keys behind them."""
        found = []
        for span, size in zip(self._spans[::-1], self._sizes[::-1]):
            if left >= size:
                left -= size
            else:
                found.append(span.without_last(left))
                left = 0
        return found[::-1]

    def behind(self, row, left):
        """Of these spans what is greater than the key with this row; all, if the row is empty."""
        spans = self.with_room(left)
        if not row:
            return spans
        key, _ = worth_at(row, 0)
        cut = [span.behind(key) if span.kind == row[0] else span for span in spans if span.kind >= row[0]]
        return [span for span in cut if span is not None]


class ShapedPairs:
    """The pairs of a map whose keys are those of a key space, and whose values have one form."""

    def __init__(self, space, inner):
        self._space = space
        self._inner = inner
        self._row = []

    def key_scan(self, left):
        """A scan for the next key, behind which so many pairs come."""
        return KeyScan(self._space.behind(self._row, left))

    def value_form(self, row):
        """The form of the value of the key with this row, which is the key that came next."""
        self._row = row
        return self._inner


class ListedPairs:
    """The pairs of a map whose possible keys are listed: tuples of row, form, and whether it is required."""

    def __init__(self, entries):
        self._entries = entries
        self._next = 0
        self._required_from = [0]
        for _, _, is_required in entries[::-1]:
            self._required_from.append(self._required_from[-1] + (1 if is_required else 0))
        self._required_from.reverse()

    def key_scan(self, left):
        """A scan for the next key, behind which so many pairs come."""
        choices = []
        for at in range(self._next, len(self._entries)):
            row, _, is_required = self._entries[at]
            if self._required_from[at + 1] <= left <= len(self._entries) - 1 - at:
                choices.append(row)
            if is_required:
                break
        return RowScan(choices)

    def value_form(self, row):
        """The form of the value of the key with this row, which is the key that came next."""
        while self._entries[self._next][0] != row:
            self._next += 1
        self._next += 1
        return self._entries[self._next - 1][1]
