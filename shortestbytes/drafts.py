"""Drafts, which hold documents that are edited without decoding them."""

from shortestbytes.counts import is_int, number_code
from shortestbytes.documents import Document
from shortestbytes.errors import BadDeed, BadPath, TooDeep
from shortestbytes.leaves import is_key, leaf_row
from shortestbytes.values import DEEPEST
from shortestbytes.views import View

# The words of the deeds, and how many entries their tuples have.
DEEDS = {"put": 3, "insert": 3, "remove": 2}


class Draft:
    """A document that can be edited."""

    def __init__(self, document):
        self._row = document.data
        # What it was before each deed or run that has not been taken back.
        self._past = []

    def document(self):
        """The document as it is now."""
        return Document(self._row)

    def put(self, path, value):
        """Replaces a part or the whole value, or inserts a pair into a map; returns the splices."""
        return self._done(put_splices(View(self._row), path, value))

    def insert(self, path, value):
        """Inserts an item into a list; returns the splices."""
        return self._done(insert_splices(View(self._row), path, value))

    def remove(self, path):
        """Removes an item of a list or a pair of a map; returns the splices."""
        return self._done(remove_splices(View(self._row), path))

    def _done(self, splices):
        """Makes the splices of one deed, and returns them."""
        self._past.append(self._row)
        self._row = spliced(self._row, splices)
        return splices

    def run(self, deeds):
        """Does deeds one after another, or none if one raises an error; returns the lists of their splices."""
        row = self._row
        found = []
        for at, deed in enumerate(deeds):
            if not is_deed(deed):
                raise BadDeed(at)
            splices = deed_splices(View(row), deed)
            row = spliced(row, splices)
            found.append(splices)
        self._past.append(self._row)
        self._row = row
        return found

    def undo(self):
        """Takes back the last deed or run; returns whether there was one."""
        if len(self._past) == 0:
            return False
        self._row = self._past.pop()
        return True


def is_deed(thing):
    """Whether any value is a deed."""
    if not isinstance(thing, tuple) or len(thing) < 2 or not isinstance(thing[0], str):
        return False
    return DEEDS.get(thing[0]) == len(thing) and isinstance(thing[1], (list, tuple))


def spliced(row, splices):
    """A row after the splices, a tuple."""
    for begin, end, put in splices[::-1]:
        row = row[:begin] + put + row[end:]
    return row


def deed_splices(whole, deed):
    """The splices of a deed in a document that is viewed."""
    if deed[0] == "put":
        return put_splices(whole, deed[1], deed[2])
    if deed[0] == "insert":
        return insert_splices(whole, deed[1], deed[2])
    return remove_splices(whole, deed[1])


def put_splices(whole, path, value):
    """The splices that put a value at a path."""
    if len(path) > 0:
        nest = nest_around(whole, path)
        if nest.kind == "map" and is_key(path[-1]) and nest.part_start(path[-1]) is None:
            return pair_splices(nest, path[-1], fitting(value, len(path)))
    part = whole.part(*path)
    return [(part.start, part.end(), fitting(value, len(path)).data)]


def insert_splices(whole, path, value):
    """The splices that insert a value into a list."""
    nest = nest_around(whole, path)
    step = path[-1]
    if nest.kind != "list" or not is_int(step) or not 0 <= step <= nest.size:
        raise BadPath(len(path) - 1)
    start = nest.end() if step == nest.size else nest.part_start(step)
    return [code_splice(nest, 1), (start, start, fitting(value, len(path)).data)]


def remove_splices(whole, path):
    """The splices that remove what is at a path."""
    nest = nest_around(whole, path)
    if nest.kind == "tag":
        raise BadPath(len(path) - 1)
    part = whole.part(*path)
    begin = nest.key_bounds(path[-1])[0] if nest.kind == "map" else part.start
    return [code_splice(nest, -1), (begin, part.end(), ())]


def nest_around(whole, path):
    """The view of what the last step of a path is taken in."""
    if len(path) == 0:
        raise BadPath(-1)
    outer = path[:-1]
    return whole.part(*outer)


def pair_splices(nest, key, document):
    """The splices that insert a pair, whose key a map does not have."""
    bounds = nest.key_bounds(key)
    start = nest.end() if bounds is None else bounds[0]
    return [code_splice(nest, 1), (start, start, tuple(leaf_row(key)) + document.data)]


def code_splice(nest, more):
    """The splice that replaces the code of the number of items or pairs by that of a number that is so much greater."""
    return nest.start + 1, nest.inside(), tuple(number_code(nest.size + more))


def fitting(value, steps):
    """The document of a value, or one that stands for it, if it can stand behind so many steps."""
    document = value if isinstance(value, Document) else Document.of(value)
    reached = steps + document.depth()
    if reached > DEEPEST:
        raise TooDeep(reached)
    return document
