"""Documents: rows of bytes, of which each value has exactly one."""

from shortestbytes.counts import is_number, number_code
from shortestbytes.courses import followed
from shortestbytes.errors import BadItem, BadNumber, BadValue, DuplicateKey, TooDeep, Unfinished, WrongByte
from shortestbytes.grammar import grammar_of
from shortestbytes.items import depth_of, events_of, line_of, value_of
from shortestbytes.kinds import LIST, MAP, TAG, WORDS
from shortestbytes.values import document_row, first_bad, hex_text

KEY_WORDS = ("integer", "octets", "text")


class Document:
    """The bytes of a value; made by its class methods."""

    DEEPEST = 24

    def __init__(self, row):
        self.data = tuple(row)
        self.kind = WORDS[self.data[0]]

    @classmethod
    def of(cls, value):
        """The document of any value."""
        path = first_bad(value)
        if path is not None:
            raise BadValue(path)
        return cls(document_row(value))

    @classmethod
    def read(cls, data, *, schema=None):
        """The document of the schema that data is."""
        end, is_whole = followed(data, 0, grammar_of(schema))
        if end < len(data):
            raise WrongByte(end)
        if not is_whole:
            raise Unfinished(end)
        return cls(data)

    @classmethod
    def list_of(cls, *documents):
        """The document of the list of the values of the documents."""
        refuse_too_deep(documents)
        return cls(joined([LIST] + number_code(len(documents)), documents))

    @classmethod
    def map_of(cls, pairs):
        """The document of the map of the values of pairs (key, document), in any order."""
        for at, (key, _) in enumerate(pairs):
            if key.kind not in KEY_WORDS:
                raise BadItem(at)
        table = {}
        for at, (key, document) in enumerate(pairs):
            if key.data in table:
                raise DuplicateKey(at)
            table[key.data] = (key, document)
        refuse_too_deep([document for _, document in pairs])
        ascending = [document for row in sorted(list(table)) for document in table[row]]
        return cls(joined([MAP] + number_code(len(pairs)), ascending))

    @classmethod
    def tag_of(cls, number, document):
        """The document of the tag with a number and the value of the document."""
        if not is_number(number):
            raise BadNumber(number)
        refuse_too_deep([document])
        return cls(joined([TAG] + number_code(number), [document]))

    def value(self):
        """The value, new each time."""
        return value_of(self.data)

    def depth(self):
        """The depth of the value."""
        return depth_of(self.data)

    def events(self):
        """The events of the document, one after another."""
        yield from events_of(self.data)

    def listing(self):
        """A new list of lines, one for each event."""
        return [line_of(self.data, event) for event in events_of(self.data)]

    def __len__(self):
        return len(self.data)

    def __getitem__(self, at):
        return self.data[at]

    def __iter__(self):
        return iter(self.data)

    def __eq__(self, other):
        return isinstance(other, Document) and self.data == other.data

    def __lt__(self, other):
        if not isinstance(other, Document):
            return NotImplemented
        return self.data < other.data

    def __le__(self, other):
        if not isinstance(other, Document):
            return NotImplemented
        return self.data <= other.data

    def __gt__(self, other):
        if not isinstance(other, Document):
            return NotImplemented
        return self.data > other.data

    def __ge__(self, other):
        if not isinstance(other, Document):
            return NotImplemented
        return self.data >= other.data

    def __str__(self):
        return f"{hex_text(self.data)}"

    def __repr__(self):
        return f"Document({hex_text(self.data)})"


def refuse_too_deep(documents):
    """Raises TooDeep if a nest with these documents in it would be too deep."""
    reached = 1 + max([document.depth() for document in documents], default=0)
    if reached > Document.DEEPEST:
        raise TooDeep(reached)


def joined(row, documents):
    """A row with the bytes of the documents behind it, a new list."""
    found = list(row)
    for document in documents:
        found.extend(list(document.data))
    return found
