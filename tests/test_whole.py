"""The promise of point 3 over the whole program: its parts agree with each other on the same values."""

import copy
import random
import unittest

import oracle
from test_loose import Loosener
from test_views import places, steps_of

from shortestbytes.counting import Counter
from shortestbytes.counts import MOST
from shortestbytes.documents import Document
from shortestbytes.drafts import Draft
from shortestbytes.loose import shorten
from shortestbytes.readers import Reader
from shortestbytes.reading import first_wrong, is_document, read
from shortestbytes.schemas import Schema
from shortestbytes.shapes import Shape
from shortestbytes.values import Tag, is_value
from shortestbytes.views import View, end_of
from shortestbytes.writers import Writer

NUMBERS = [0, 1, 2, 191, 192, 255, 256, 300, 65535, 65536, MOST]
SIGNS = "\t\n !$&a~z"


class Drawn:
    """Values by chance."""

    def __init__(self, seed):
        self.chance = random.Random(seed)

    def key(self):
        number = self.chance.choice(NUMBERS)
        return self.chance.choice([number, -1 - number, self.octets(), self.text()])

    def octets(self):
        return tuple(self.chance.choices([0, 1, 9, 255], k=self.chance.choice([0, 1, 2, 3])))

    def text(self):
        return "".join(self.chance.choices(SIGNS, k=self.chance.choice([0, 1, 2, 3])))

    def value(self, depth):
        word = self.chance.choice(["leaf", "key", "list", "map", "tag"] if depth > 0 else ["leaf", "key"])
        if word == "leaf":
            return self.chance.choice([None, True, False])
        if word == "key":
            return self.key()
        if word == "tag":
            return Tag(self.chance.choice(NUMBERS), self.value(depth - 1))
        many = self.chance.choice([0, 1, 2, 3, 4])
        if word == "list":
            return [self.value(depth - 1) for _ in range(many)]
        return {self.key(): self.value(depth - 1) for _ in range(many)}


VALUES = [Drawn(seed).value(seed % 5) for seed in range(300)]


def order(value):
    """Where a value stands in the order of point 12, by the words of that point."""
    if value is None or isinstance(value, bool):
        return ([None, False, True].index(value),)
    if isinstance(value, int):
        return (3, value)
    if isinstance(value, tuple):
        return (4, len(value), value)
    if isinstance(value, str):
        return (5, len(value), value)
    if isinstance(value, list):
        return (6, len(value), [order(item) for item in value])
    if isinstance(value, dict):
        return (7, len(value), [(order(key), order(value[key])) for key in sorted(value, key=order)])
    return (8, value.number, order(value.content()))


class OneDocument(unittest.TestCase):
    def test_what_is_written_is_read(self):
        for value in VALUES:
            self.assertTrue(is_value(value))
            document = Document.of(value)
            found = read(document)
            self.assertEqual((found, type(found)), (value, type(value)))
            self.assertEqual(order(found), order(value))
            self.assertEqual(Document.of(found), document)

    def test_the_order_of_values_is_that_of_documents(self):
        for one in VALUES:
            for two in VALUES[::7]:
                left, right = Document.of(one), Document.of(two)
                self.assertEqual(order(one) < order(two), left < right)
                self.assertEqual(order(one) == order(two), left == right)

    def test_no_document_is_the_beginning_of_another_one(self):
        for one in VALUES:
            for two in VALUES[::5]:
                left, right = Document.of(one).data, Document.of(two).data
                self.assertEqual(left == right[:len(left)], left == right)

    def test_no_other_row_reads_as_the_value(self):
        chance = random.Random(1)
        for value in VALUES:
            row = list(Document.of(value))
            for _ in range(20):
                at = chance.randrange(len(row))
                other = row[:at] + [chance.randrange(256)] + row[at + 1:]
                if is_document(other):
                    self.assertEqual(Document.of(read(other)).data, tuple(other))
                    self.assertTrue(other == row or order(read(other)) != order(value))


class Agreement(unittest.TestCase):
    def test_readers(self):
        stream = [byte for value in VALUES[:60] for byte in Document.of(value)]
        chance = random.Random(2)
        reader, at = Reader(), 0
        while at < len(stream):
            size = chance.choice([1, 2, 5, 30])
            reader.feed(stream[at:at + size])
            at += size
        self.assertEqual(reader.finished(), VALUES[:60])

    def test_completions_behind_each_beginning(self):
        for value in VALUES[::5]:
            row = Document.of(value).data
            for size in range(1, len(row)):
                reader = Reader()
                reader.feed(row[:size])
                if reader.owed() <= 60:
                    whole = list(row[:size]) + reader.completion()
                    self.assertTrue(is_document(whole))
                    self.assertTrue(is_value(read(whole)))
                    self.assertIs(first_wrong(whole[:-1]), None)

    def test_writers(self):
        for value in VALUES:
            document = Document.of(value)
            writer = Writer()
            for _, _, _, word, worth in document.events():
                writer.put(word, worth)
            self.assertEqual(writer.document(), document)

    def test_views(self):
        for value in VALUES:
            row = Document.of(value).data
            self.assertEqual(end_of(row), len(row))
            for path, start, part in places(value):
                view = View(row).part(*path)
                self.assertEqual(Document.read(view.piece()), Document.of(part))
                self.assertEqual([(step, child.value()) for step, child in view.children()], steps_of(part))

    def test_joining(self):
        for value in VALUES:
            if isinstance(value, list):
                self.assertEqual(Document.list_of(*[Document.of(item) for item in value]), Document.of(value))
            if isinstance(value, dict):
                pairs = [(Document.of(key), Document.of(value[key])) for key in value]
                self.assertEqual(Document.map_of(pairs[::-1]), Document.of(value))
            if isinstance(value, Tag):
                self.assertEqual(Document.tag_of(value.number, Document.of(value.content())), Document.of(value))

    def test_drafts_make_values_part_by_part(self):
        for value in VALUES:
            draft = Draft(Document.of(None))
            self.build(draft, (), value)
            self.assertEqual(draft.document(), Document.of(value))

    def build(self, draft, path, value):
        empty = {list: [], dict: {}}.get(type(value), value)
        draft.put(path, Tag(value.number, None) if isinstance(value, Tag) else copy.copy(empty))
        for step, part in steps_of(value):
            if isinstance(value, list):
                draft.insert(path + (step,), None)
            self.build(draft, path + (step,), part)

    def test_shortening(self):
        for seed, value in enumerate(VALUES):
            self.assertEqual(shorten(Document.of(value)), Document.of(value))
            self.assertEqual(shorten(Loosener(random.Random(seed), 0.3).item(value)), Document.of(value))

    def test_schemas_of_just_one_value(self):
        for value in VALUES[::3]:
            schema = Schema(Shape.just(value))
            document = Document.of(value)
            self.assertEqual(Document.read(document, schema=schema), document)
            reader = Reader(schema)
            for byte in document:
                self.assertEqual(reader.allowed(), [(byte, byte)])
                reader.feed([byte])
            if len(document) <= 12:
                self.assertEqual([Counter(schema).how_many(n) for n in range(13)], [int(n == len(document)) for n in range(13)])

    def test_documents_by_number(self):
        chance = random.Random(3)
        schemas = [None, Schema(Shape.maps(Shape.texts() | Shape.integers(-5, 5), Shape.anything()))]
        schemas += [schema for _, schema, rows in oracle.drawn_schemas(range(20), (0,), 500)]
        for schema in schemas:
            counter = Counter(schema)
            for n in range(1, 13):
                total = counter.how_many(n)
                for k in [chance.randrange(total) for _ in range(3 if total > 0 else 0)]:
                    self.same(schema, counter, counter.nth(n, k), k)

    def same(self, schema, counter, document, k):
        reader = Reader(schema)
        self.assertEqual(reader.feed(document), 1)
        value = reader.finished()[0]
        self.assertEqual(Document.of(value), document)
        self.assertTrue(schema is None or schema.matches(value))
        writer = Writer()
        for _, _, _, word, worth in document.events():
            writer.put(word, worth)
        self.assertEqual(writer.document(), document)
        self.assertEqual(counter.place_of(writer.document()), k)
        self.assertEqual(View(document).value(), value)
        self.assertEqual(shorten(document), document)


if __name__ == "__main__":
    unittest.main()
