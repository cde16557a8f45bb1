"""Values, and the class of those that are tags."""

from shortestbytes.counts import is_number, number_code
from shortestbytes.errors import BadNumber, BadValue
from shortestbytes.kinds import LIST, MAP, TAG
from shortestbytes.leaves import is_key, is_leaf, leaf_row

DEEPEST = 24


class Tag:
    """A value that gives another value a number."""

    def __init__(self, number, content):
        if not is_number(number):
            raise BadNumber(number)
        path = first_bad(content)
        if path is not None:
            raise BadValue(path)
        self.number = number
        self._content = copy_of(content)
        self._row = tuple(document_row(content))

    def content(self):
        """A new copy of the content."""
        return copy_of(self._content)

    def __eq__(self, other):
        if not isinstance(other, Tag):
            return False
        return (self.number, self._row) == (other.number, other._row)

    def __lt__(self, other):
        if not isinstance(other, Tag):
            return NotImplemented
        return (self.number, self._row) < (other.number, other._row)

    def __repr__(self):
        return f"Tag({self.number}, {hex_text(self._row)})"


def hex_text(row):
    """The bytes of a row, each as two hexadecimal digits, with one space between two."""
    return " ".join([f"{byte:02x}" for byte in row])


def is_value(value):
    """Whether any value is a value."""
    return first_bad(value) is None


def is_nest(thing):
    """Whether any value is of a kind that nests have."""
    return isinstance(thing, (list, dict, Tag))


def has_wrong_key(nest):
    """Whether a nest is a dict with a key that is not a key."""
    return isinstance(nest, dict) and not all([is_key(key) for key in nest])


def parts_of(nest):
    """The parts of a nest with right keys, in the order of its document: pairs of step and part."""
    if isinstance(nest, list):
        return list(enumerate(nest))
    if isinstance(nest, dict):
        return [(key, nest[key]) for key in sorted(list(nest), key=leaf_row)]
    return [(0, nest._content)]


def first_bad(thing, level=1):
    """The path from a thing at a level to its first bad part, or None if no part is bad."""
    if is_leaf(thing):
        return None
    if not is_nest(thing) or level > DEEPEST or has_wrong_key(thing):
        return ()
    for step, part in parts_of(thing):
        path = first_bad(part, level + 1)
        if path is not None:
            return (step,) + path
    return None


def copy_of(value):
    """A copy that has no list, dict or Tag in common with the value, with ascending keys."""
    if isinstance(value, list):
        return [copy_of(item) for item in value]
    if isinstance(value, dict):
        return {key: copy_of(part) for key, part in parts_of(value)}
    if isinstance(value, Tag):
        return right_tag(value.number, value._content, value._row)
    return value


def right_tag(number, content, row):
    """The Tag with a content that is known to be a value, and the row of its document."""
    # It begins with a small content, so that one known to be right is not looked at again.
    # Tags may have the content in common, for it is never handed out and never changes.
    tag = Tag(number, None)
    tag._content = content
    tag._row = tuple(row)
    return tag


def document_row(value):
    """The bytes of the document of a value, a new list."""
    if isinstance(value, list):
        row = [LIST] + number_code(len(value))
        for item in value:
            row.extend(list(document_row(item)))
        return row
    if isinstance(value, dict):
        row = [MAP] + number_code(len(value))
        for key, part in parts_of(value):
            row.extend(leaf_row(key) + document_row(part))
        return row
    if isinstance(value, Tag):
        return [TAG] + number_code(value.number) + list(value._row)
    return leaf_row(value)
