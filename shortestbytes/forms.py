"""Forms, of which shapes consist, and the forms of leaves."""

from shortestbytes.bodies import EmptyBody
from shortestbytes.counts import is_int
from shortestbytes.kinds import INTEGER, NEGATIVE, TEXT
from shortestbytes.leaves import content_of, leaf_row
from shortestbytes.spans import Span, leaf_scan


class Form:
    """What forms have in common.

    A form that is its only alternative also has `kinds()`, the kind bytes that its documents begin
    with, which have one word; `is_met_by(value, grammar)`, whether a value matches it; and
    `body(kind, grammar, level)`, the way through what stands behind a kind byte at a level.
    """

    def expanded(self, grammar):
        """The alternatives of the form, names and choices replaced by what they stand for."""
        return [self]

    def parts(self):
        """The forms written within the form."""
        return []

    def depth_by(self, depths):
        """The least depth of a value that matches, if those of the names are known."""
        return 0


class Constant(Form):
    """None, False or True."""

    def __init__(self, kind):
        self._kind = kind

    def kinds(self):
        """The kind byte."""
        return [self._kind]

    def is_met_by(self, value, grammar):
        """Whether a value is the constant."""
        return (value is None or isinstance(value, bool)) and leaf_row(value) == [self._kind]

    def body(self, kind, grammar, level):
        """Nothing follows."""
        return EmptyBody()


class Integers(Form):
    """The integers from low to high."""

    def __init__(self, low, high):
        self._low = low
        self._high = high

    def spans(self):
        """The spans of the integers, in ascending order."""
        found = []
        if self._low < 0:
            found.append(Span(NEGATIVE, self._low, min(self._high, -1)))
        if self._high >= 0:
            found.append(Span(INTEGER, max(self._low, 0), self._high))
        return found

    def kinds(self):
        """The kind bytes of the integers."""
        return [span.kind for span in self.spans()]

    def is_met_by(self, value, grammar):
        """Whether a value is one of the integers."""
        return is_int(value) and self._low <= value <= self._high

    def body(self, kind, grammar, level):
        """The way through the code of an integer."""
        return leaf_scan(self.spans()[-1 if kind == INTEGER else 0])


class Sized(Form):
    """The octets or the texts with a length from least to most, or just those with one content."""

    def __init__(self, kind, least, most, content=None):
        self._kind = kind
        self._least = least
        self._most = most
        self._content = content

    def spans(self):
        """The span of the octets or texts, in a list."""
        return [Span(self._kind, self._least, self._most, self._content, self._content)]

    def kinds(self):
        """The kind byte."""
        return [self._kind]

    def is_met_by(self, value, grammar):
        """Whether a value is one of the octets or texts."""
        is_of_kind = isinstance(value, str) if self._kind == TEXT else isinstance(value, tuple)
        if not is_of_kind or not self._least <= len(value) <= self._most:
            return False
        return self._content is None or content_of(value) == self._content

    def body(self, kind, grammar, level):
        """The way through the code of a length and the content."""
        return leaf_scan(self.spans()[0])
