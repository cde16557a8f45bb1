"""Writers, which take the items of a document one by one."""

from shortestbytes.counts import is_number, number_code
from shortestbytes.courses import Course
from shortestbytes.documents import Document
from shortestbytes.errors import BadItem, Unfinished
from shortestbytes.grammar import grammar_of
from shortestbytes.items import CONSTANTS, NEST_WORDS
from shortestbytes.kinds import WORDS
from shortestbytes.leaves import is_integer_value, is_key, leaf_row


class Writer:
    """Takes the items of one document, and refuses what cannot come next."""

    def __init__(self):
        self._course = Course(grammar_of(None))
        self._row = []
        self._many = 0
        self._is_done = False

    @property
    def is_done(self):
        """Whether the items are a whole document."""
        return self._is_done

    def put(self, word, worth=None):
        """Takes an item."""
        row = item_row(word, worth)
        course = self._course.copy()
        for byte in row:
            if not course.accepts(byte):
                raise BadItem(self._many)
            course.take(byte)
        if not row:
            raise BadItem(self._many)
        self._course = course
        self._row.extend(list(row))
        self._many += 1
        self._is_done = course.is_over()

    def written(self):
        """The bytes of the items taken, a new list."""
        return list(self._row)

    def document(self):
        """The document that was written."""
        if not self._is_done:
            raise Unfinished(len(self._row))
        return Document(self._row)


def item_row(word, worth):
    """The bytes of an item up to its parts; none if the word is none or the worth does not belong to it."""
    if not isinstance(word, str):
        return []
    if word in CONSTANTS:
        return leaf_row(CONSTANTS[word]) if worth is None else []
    if word in NEST_WORDS:
        return [kind_of(word)] + number_code(worth) if is_number(worth) else []
    return leaf_row(worth) if is_leaf_of(word, worth) else []


def kind_of(word):
    """The kind byte of nests with this word."""
    return [kind for kind in WORDS if WORDS[kind] == word][0]


def is_leaf_of(word, worth):
    """Whether any value is the worth of a leaf with this word."""
    if word == "integer":
        return is_integer_value(worth)
    if word == "octets":
        return isinstance(worth, tuple) and is_key(worth)
    return word == "text" and isinstance(worth, str) and is_key(worth)
