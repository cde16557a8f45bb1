"""Readers, which take the bytes of a stream of documents in pieces."""

from shortestbytes.courses import Course
from shortestbytes.errors import TooLong, WrongByte
from shortestbytes.grammar import grammar_of
from shortestbytes.items import value_of

# The greatest debt for which a completion is made.
MOST_OWED = 400


class Reader:
    """Takes documents of a schema one after another, byte by byte."""

    def __init__(self, schema=None):
        self._grammar = grammar_of(schema)
        self._course = Course(self._grammar)
        # The bytes of the document that has been begun, and how many came before it.
        self._row = []
        self._before = 0
        # The rows of the documents that were finished.
        self._whole = []

    @property
    def position(self):
        """The number of bytes taken."""
        return self._before + len(self._row)

    @property
    def is_between(self):
        """Whether the bytes taken are whole documents."""
        return len(self._row) == 0

    def feed(self, data):
        """Takes the entries of data; returns the number of documents that they finished."""
        many = len(self._whole)
        for entry in data:
            if not self._course.accepts(entry):
                raise WrongByte(self.position)
            self._take(entry)
        return len(self._whole) - many

    def _take(self, byte):
        """Takes a byte that is allowed."""
        self._course.take(byte)
        self._row.append(byte)
        if self._course.is_over():
            self._whole.append(self._row)
            self._before += len(self._row)
            self._row = []
            self._course = Course(self._grammar)

    def finished(self):
        """The values of all documents that were finished, a new list."""
        return [value_of(row) for row in self._whole]

    def allowed(self):
        """The allowed bytes as ranges (low, high), a new list."""
        return self._course.ranges()

    def place(self):
        """The path to the item that the next byte belongs to."""
        return self._course.place()

    def owed(self):
        """The debt."""
        return self._course.owed()

    def completion(self):
        """A row of bytes that finishes the document that has been begun."""
        debt = self.owed()
        if debt > MOST_OWED:
            raise TooLong(debt)
        return [] if self.is_between else self._course.completion()

    def copy(self):
        """Another reader in the same state."""
        twin = Reader()
        twin._grammar = self._grammar
        twin._course = self._course.copy()
        twin._row = list(self._row)
        twin._before = self._before
        # The rows of whole documents never change.
        twin._whole = list(self._whole)
        return twin

    def state(self):
        """The state without what was finished, a tuple of integers."""
        return (self._before, *self._row)

    @classmethod
    def resumed(cls, state, *, schema=None):
        """A reader that goes on as the one whose state this is."""
        before, *row = state
        reader = cls(schema)
        reader.feed(row)
        reader._before = before
        return reader
