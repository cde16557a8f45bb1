"""Reading data that is, or should be, one document."""

from shortestbytes.courses import followed
from shortestbytes.documents import Document
from shortestbytes.grammar import grammar_of


def read(data, *, schema=None):
    """The value of the document of the schema that data is."""
    return Document.read(data, schema=schema).value()


def first_wrong(data, *, schema=None):
    """The index of the first wrong byte, or None if there is none."""
    end, _ = followed(data, 0, grammar_of(schema))
    return end if end < len(data) else None


def is_document(data, *, schema=None):
    """Whether data is a document of the schema."""
    end, is_whole = followed(data, 0, grammar_of(schema))
    return is_whole and end == len(data)
