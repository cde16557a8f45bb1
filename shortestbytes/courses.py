"""Courses: the way through one document, byte by byte."""

from shortestbytes.bodies import Item
from shortestbytes.counts import is_byte
from shortestbytes.scans import is_within
from shortestbytes.ways import both, one_way


class Course:
    """How far a document has come, and which bytes can come next."""

    def __init__(self, grammar):
        self._grammar = grammar
        # What has been begun and is not whole, the outermost item first. What stands here never changes.
        self._chain = [Item(grammar, grammar.root(), 1, 0)]

    def copy(self):
        """Another course that has come as far."""
        twin = Course(self._grammar)
        twin._chain = list(self._chain)
        return twin

    def is_over(self):
        """Whether the document is whole."""
        return not self._chain

    def ranges(self):
        """The bytes that can come next."""
        return self._chain[-1].ranges() if self._chain else []

    def accepts(self, entry):
        """Whether any value is a byte that can come next."""
        return is_byte(entry) and is_within(entry, self.ranges())

    def take(self, byte):
        """Takes a byte that can come next."""
        self._chain[-1] = self._chain[-1].after(byte)
        while self._chain and not self._chain[-1].wants_byte():
            self._chain[-1], inner = self._chain[-1].advanced()
            if inner is not None:
                self._chain.append(inner)
            elif not self._chain[-1].wants_byte():
                self._chain.pop()

    def place(self):
        """The path to the item that the next byte belongs to."""
        return tuple([nest.step() for nest in self._chain[:-1]])

    def owed(self):
        """The sum of what is missing."""
        return sum([part.owed() for part in self._chain])

    def completion(self):
        """A short row of bytes that finishes the document."""
        ahead = self.copy()
        row = []
        while not ahead.is_over():
            more = ahead.short()
            for byte in more:
                ahead.take(byte)
            row.extend(list(more))
        return row

    def short(self):
        """The bytes with which a short completion goes on, one or more."""
        return self._chain[-1].short()

    def how_many(self, left):
        """How many ways there are to finish the document with just so many bytes."""
        ways = one_way(left)
        for part in self._chain[::-1]:
            if not any(ways):
                return 0
            ways = both(ways, part.ways(left))
        return ways[left]


def followed(data, at, grammar):
    """The index up to which data from an index on is a document or the beginning of one, and whether it is one."""
    course = Course(grammar)
    while at < len(data) and course.accepts(data[at]):
        course.take(data[at])
        at += 1
    return at, course.is_over()
