"""The names and parameters of the interface, each in the file that lists it."""

import inspect
import unittest

from shortestbytes import (
    counting, counts, documents, drafts, errors, loose, readers, reading, schemas, shapes, values, views, writers,
)

FUNCTIONS = [
    (counts, "number_code", ["number"]),
    (counts, "number_at", ["data", "at"]),
    (values, "is_value", ["value"]),
    (reading, "read", ["data", "schema"]),
    (reading, "first_wrong", ["data", "schema"]),
    (reading, "is_document", ["data", "schema"]),
    (views, "end_of", ["data", "at"]),
    (loose, "shorten", ["data"]),
]

CLASSES = [
    (values, "Tag", ["number", "content"], ["content", "__eq__", "__lt__", "__repr__"]),
    (schemas, "Schema", ["root", "named"], ["of", "names", "matches", "least_depth"]),
    (documents, "Document", None, [
        "of", "read", "list_of", "map_of", "tag_of", "value", "depth", "__len__", "__getitem__", "__iter__", "__eq__",
        "__lt__", "__le__", "__gt__", "__ge__", "__str__", "__repr__", "events", "listing",
    ]),
    (shapes, "Shape", None, [
        "anything", "just", "integers", "texts", "octets", "rows", "lists", "maps", "record", "fields", "tagged", "named",
        "__or__",
    ]),
    (readers, "Reader", ["schema"], [
        "feed", "position", "is_between", "finished", "allowed", "place", "owed", "completion", "copy", "state", "resumed",
    ]),
    (writers, "Writer", [], ["put", "is_done", "written", "document"]),
    (views, "View", ["data", "at"], ["__len__", "end", "piece", "part", "children", "value"]),
    (drafts, "Draft", ["document"], ["document", "put", "insert", "remove", "run", "undo"]),
    (counting, "Counter", ["schema"], ["how_many", "nth", "place_of", "each"]),
]

SIGNATURES = [
    (documents.Document.of, "(value)"),
    (documents.Document.read, "(data, *, schema=None)"),
    (documents.Document.list_of, "(*documents)"),
    (documents.Document.map_of, "(pairs)"),
    (documents.Document.tag_of, "(number, document)"),
    (documents.Document.value, "(self)"),
    (documents.Document.depth, "(self)"),
    (documents.Document.events, "(self)"),
    (documents.Document.listing, "(self)"),
    (shapes.Shape.anything, "()"),
    (shapes.Shape.just, "(value)"),
    (shapes.Shape.integers, "(low=None, high=None)"),
    (shapes.Shape.texts, "(least=0, most=None)"),
    (shapes.Shape.octets, "(least=0, most=None)"),
    (shapes.Shape.rows, "(*shapes)"),
    (shapes.Shape.lists, "(item, *, least=0, most=None)"),
    (shapes.Shape.maps, "(key, content, *, least=0, most=None)"),
    (shapes.Shape.record, "(required, *, optional=None)"),
    (shapes.Shape.fields, "(**shapes)"),
    (shapes.Shape.tagged, "(number, content)"),
    (shapes.Shape.named, "(name)"),
    (schemas.Schema, "(root, named=None)"),
    (schemas.Schema.of, "(root, **named)"),
    (schemas.Schema.names, "(self)"),
    (schemas.Schema.matches, "(self, value)"),
    (schemas.Schema.least_depth, "(self, name=None)"),
    (reading.read, "(data, *, schema=None)"),
    (reading.first_wrong, "(data, *, schema=None)"),
    (reading.is_document, "(data, *, schema=None)"),
    (readers.Reader, "(schema=None)"),
    (readers.Reader.feed, "(self, data)"),
    (readers.Reader.finished, "(self)"),
    (readers.Reader.allowed, "(self)"),
    (readers.Reader.place, "(self)"),
    (readers.Reader.owed, "(self)"),
    (readers.Reader.completion, "(self)"),
    (readers.Reader.copy, "(self)"),
    (readers.Reader.state, "(self)"),
    (readers.Reader.resumed, "(state, *, schema=None)"),
    (writers.Writer, "()"),
    (writers.Writer.put, "(self, word, worth=None)"),
    (writers.Writer.written, "(self)"),
    (writers.Writer.document, "(self)"),
    (views.end_of, "(data, at=0)"),
    (views.View, "(data, at=0)"),
    (views.View.end, "(self)"),
    (views.View.piece, "(self)"),
    (views.View.part, "(self, *path)"),
    (views.View.children, "(self)"),
    (views.View.value, "(self)"),
    (drafts.Draft, "(document)"),
    (drafts.Draft.document, "(self)"),
    (drafts.Draft.put, "(self, path, value)"),
    (drafts.Draft.insert, "(self, path, value)"),
    (drafts.Draft.remove, "(self, path)"),
    (drafts.Draft.run, "(self, deeds)"),
    (drafts.Draft.undo, "(self)"),
    (loose.shorten, "(data)"),
    (counting.Counter, "(schema=None)"),
    (counting.Counter.how_many, "(self, n, row=())"),
    (counting.Counter.nth, "(self, n, k)"),
    (counting.Counter.place_of, "(self, document)"),
    (counting.Counter.each, "(self, n)"),
]


class Interface(unittest.TestCase):
    def test_functions(self):
        for module, name, parameters in FUNCTIONS:
            with self.subTest(name=name):
                thing = getattr(module, name)
                self.assertTrue(inspect.isfunction(thing))
                self.assertEqual(thing.__module__, module.__name__)
                self.assertEqual(list(inspect.signature(thing).parameters), parameters)

    def test_classes(self):
        for module, name, parameters, methods in CLASSES:
            with self.subTest(name=name):
                thing = getattr(module, name)
                self.assertEqual(thing.__module__, module.__name__)
                if parameters is not None:
                    self.assertEqual(list(inspect.signature(thing).parameters), parameters)
                for method in methods:
                    self.assertIn(method, vars(thing))

    def test_signatures(self):
        for thing, expected in SIGNATURES:
            with self.subTest(thing=thing):
                self.assertEqual(str(inspect.signature(thing)), expected)

    def test_class_values(self):
        self.assertEqual(vars(documents.Document)["DEEPEST"], 24)
        self.assertEqual(vars(shapes.Shape)["LONGEST"], 400)

    def test_attributes_are_set_on_each_object(self):
        for value in (None, 5, "a", [1], {1: 2}, values.Tag(1, 1)):
            document = documents.Document.of(value)
            self.assertIn("data", vars(document))
            self.assertIn("kind", vars(document))

    def test_errors(self):
        for name, thing in inspect.getmembers(errors, inspect.isclass):
            with self.subTest(name=name):
                self.assertEqual(thing.__module__, errors.__name__)


if __name__ == "__main__":
    unittest.main()
