"""Counting and numbering the documents of a schema by their lengths."""

from shortestbytes.counts import is_int
from shortestbytes.courses import Course, followed
from shortestbytes.documents import Document
from shortestbytes.errors import NoDocument, WrongByte
from shortestbytes.grammar import grammar_of


class Counter:
    """Counts the documents of a schema, and numbers those of each length in ascending order."""

    def __init__(self, schema=None):
        self._grammar = grammar_of(schema)

    def how_many(self, n, row=()):
        """How many documents have n bytes and begin with a row."""
        if len(row) > n:
            return 0
        course = Course(self._grammar)
        for entry in row:
            if not course.accepts(entry):
                return 0
            course.take(entry)
        return course.how_many(n - len(row))

    def nth(self, n, k):
        """The document with the number k among those of n bytes."""
        if not is_int(k) or not 0 <= k < self.how_many(n):
            raise NoDocument(k)
        course = Course(self._grammar)
        row = []
        left = k
        while len(row) < n:
            byte, before, course = branch_with(course, left, n - len(row))
            left -= before
            row.append(byte)
        return Document(row)

    def place_of(self, document):
        """The number of a document among those of its length."""
        end, _ = followed(document, 0, self._grammar)
        if end < len(document):
            raise WrongByte(end)
        course = Course(self._grammar)
        place = 0
        for at, byte in enumerate(document):
            lesser = [other for other in allowed_bytes(course) if other < byte]
            place += sum([many_behind(course, other, len(document) - at) for other in lesser])
            course.take(byte)
        return place

    def each(self, n):
        """All documents of n bytes in ascending order, one after another."""
        # What is still to be gone through: rows that some documents begin with, the least one last.
        ahead = [((), Course(self._grammar))] if self.how_many(n) > 0 else []
        while ahead:
            row, course = ahead.pop()
            if len(row) == n:
                yield Document(row)
            else:
                ahead.extend(branches(row, course, n)[::-1])


def allowed_bytes(course):
    """The bytes that can come next, in ascending order."""
    return [byte for low, high in course.ranges() for byte in range(low, high + 1)]


def course_behind(course, byte):
    """A new course that has come one byte further."""
    ahead = course.copy()
    ahead.take(byte)
    return ahead


def many_behind(course, byte, left):
    """How many ways there are to finish the document with this byte and others, so many in all."""
    return course_behind(course, byte).how_many(left - 1)


def branch_with(course, number, left):
    """Where the way with this number goes, of those that finish the document with so many bytes.

    A tuple of the next byte, how many ways go on with a lesser one, and the course behind the byte.
    """
    before = 0
    for byte in allowed_bytes(course):
        ahead = course_behind(course, byte)
        many = ahead.how_many(left - 1)
        if number < before + many:
            break
        before += many
    return byte, before, ahead


def branches(row, course, n):
    """The rows with one more byte that documents of n bytes begin with, and the courses behind them."""
    found = [(row + (byte,), course_behind(course, byte)) for byte in allowed_bytes(course)]
    return [(longer, ahead) for longer, ahead in found if ahead.how_many(n - len(longer)) > 0]
