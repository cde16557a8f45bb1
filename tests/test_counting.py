"""Counting the documents of each length for each beginning, and numbering them."""

import inspect
import random
import time
import unittest

import oracle
from test_document_read import NO_BYTES

from shortestbytes.counting import Counter
from shortestbytes.documents import Document
from shortestbytes.errors import NoDocument, Unfinished, WrongByte
from shortestbytes.readers import Reader
from shortestbytes.reading import read
from shortestbytes.schemas import Schema
from shortestbytes.shapes import Shape
from shortestbytes.values import Tag

ANY = Shape.anything()
NONE = Shape.just(None)
FEW = Shape.integers(-1, 1)

# Schemas with few documents of up to 12 bytes, of every kind of shape.
SMALL = [
    Schema(NONE), Schema(Shape.just([1, {"a": (2,)}])), Schema(Shape.integers(-258, 300)), Schema(Shape.integers(189, 193)),
    Schema(Shape.texts(0, 1) | Shape.octets(0, 1)), Schema(Shape.rows(NONE, FEW, NONE | FEW)), Schema(Shape.rows()),
    Schema(Shape.lists(NONE | Shape.just(True))), Schema(Shape.lists(FEW, least=1, most=3)),
    Schema(Shape.maps(Shape.integers(-3, 3), NONE | Shape.just(True))), Schema(Shape.maps(Shape.integers(190, 194), NONE, least=1)),
    Schema(Shape.maps(Shape.integers(-194, -190), FEW, most=2)), Schema(Shape.maps(Shape.texts(0, 1), NONE, least=1, most=1)),
    Schema(Shape.maps(FEW | Shape.texts(0, 0) | Shape.octets(0, 0), NONE)), Schema(Shape.maps(Shape.octets(0, 0), ANY, most=0)),
    Schema(Shape.maps(Shape.integers(254, 258), NONE, least=3)),
    Schema(Shape.record({1: NONE}, optional={0: FEW, 300: NONE, "a": NONE, (): Shape.rows()})),
    Schema(Shape.record({"b": NONE | FEW, "d": NONE}, optional={"a": NONE, "c": FEW, "e": NONE})), Schema(Shape.record({})),
    Schema(Shape.fields(a=FEW, b=NONE)), Schema(Shape.tagged(3, FEW) | Shape.tagged(300, NONE) | Shape.tagged(301, NONE) | NONE),
    Schema(Shape.tagged(70000, Shape.lists(NONE))), Schema(Shape.lists(Shape.lists(NONE))),
    Schema.of(Shape.named("tree"), tree=Shape.lists(Shape.named("tree"))),
    Schema.of(Shape.named("one"), one=NONE | Shape.tagged(1, Shape.named("two")), two=Shape.rows(Shape.named("one"), Shape.named("one"))),
    Schema.of(Shape.named("a"), a=FEW | Shape.maps(Shape.integers(0, 2), Shape.named("a"))),
    Schema(oracle.padded(2, Shape.lists(Shape.just(7)) | FEW)),
]


def plain_rows(schema, most):
    """All documents of a schema with up to so many bytes, by going through all bytes that a reader allows."""
    found, ahead = [], [((), Reader(schema))]
    while ahead:
        row, reader = ahead.pop()
        for byte in [byte for low, high in reader.allowed() for byte in range(low, high + 1)]:
            twin = reader.copy()
            if twin.feed([byte]):
                found.append(row + (byte,))
            elif len(row) + 1 + twin.owed() <= most and len(row) + 1 < most:
                ahead.append((row + (byte,), twin))
    return sorted(found)


class Small(unittest.TestCase):
    """Against a plain list of all documents."""

    @classmethod
    def setUpClass(cls):
        cls.listed = [(schema, plain_rows(schema, 12)) for schema in SMALL]
        cls.listed += [(schema, rows) for _, schema, rows in oracle.drawn_schemas(range(60), (0, 2), 800)]

    def test_how_many(self):
        for schema, rows in self.listed:
            counter = Counter(schema)
            for n in range(13):
                self.assertEqual(counter.how_many(n), len([row for row in rows if len(row) == n]))
                self.assertIs(type(counter.how_many(n)), int)

    def test_how_many_for_beginnings(self):
        chance = random.Random(1)
        for schema, rows in self.listed:
            counter = Counter(schema)
            for row in chance.sample(rows, min(4, len(rows))):
                for size in range(len(row) + 1):
                    for n in {chance.randrange(13), len(row)}:
                        expected = len([one for one in rows if len(one) == n and one[:size] == row[:size]])
                        self.assertEqual(counter.how_many(n, row[:size]), expected)
                        self.assertEqual(counter.how_many(n, list(row[:size]) + [0]),
                                         len([one for one in rows if len(one) == n and one[:size + 1] == row[:size] + (0,)]))

    def test_numbers(self):
        chance = random.Random(2)
        for schema, rows in self.listed:
            counter = Counter(schema)
            for n in range(13):
                numbered = [row for row in rows if len(row) == n]
                for k in {0, len(numbered) - 1, *chance.choices(range(len(numbered) + 1), k=5)}:
                    if 0 <= k < len(numbered):
                        found = counter.nth(n, k)
                        self.assertIs(type(found), Document)
                        self.assertEqual(found.data, numbered[k])
                        self.assertEqual(counter.place_of(found), k)
                        self.assertTrue(schema.matches(found.value()))
                for k in (-1, len(numbered), len(numbered) + 1):
                    with self.assertRaises(NoDocument) as caught:
                        counter.nth(n, k)
                    self.assertEqual(caught.exception.number, k)

    def test_each(self):
        for schema, rows in self.listed:
            counter = Counter(schema)
            for n in range(13):
                expected = [row for row in rows if len(row) == n]
                if len(expected) <= 2000:
                    self.assertEqual([document.data for document in counter.each(n)], expected)


class General(unittest.TestCase):
    def test_example(self):
        self.assertEqual(Counter().how_many(2), 388)
        self.assertEqual(Counter().nth(2, 384).data, (6, 0))

    def test_short_lengths_listed(self):
        for n, expected in [(0, 0), (1, 3), (2, 388), (3, 1059)]:
            rows = [row for row in plain_rows(None, n) if len(row) == n]
            self.assertEqual((len(rows), Counter().how_many(n)), (expected, expected))
            for k in range(0, len(rows), 7):
                self.assertEqual(Counter().nth(n, k).data, rows[k])

    def test_counted_another_way(self):
        counts = [0] * 13
        for n in range(1, 13):
            counts[n] = self.counted(n, counts)
        for schema in (None, Schema(ANY)):
            self.assertEqual([Counter(schema).how_many(n) for n in range(13)], counts)

    def counted(self, n, counts):
        """The number of documents of n bytes, from those of fewer bytes."""
        codes = [0, 192, 64] + [256 ** size - 256 ** (size - 1) for size in range(2, 64)]
        keys = [0, 0] + [2 * codes[size - 1] + (256 ** (size - 2) + 96 ** (size - 2)) for size in range(2, 13)]
        total = (3 if n == 1 else 0) + keys[n]
        total += sum(codes[size] * counts[n - 1 - size] for size in range(1, n - 1))
        # Lists and maps have fewer items and pairs than 192, so that their heads have two bytes.
        if n >= 2:
            total += sum(self.rows(counts, many, n - 2) for many in range(11))
            total += sum(self.pairs(keys, counts, many, n - 2) for many in range(5))
        return total

    def rows(self, counts, many, size):
        """The rows of so many documents with a size in all."""
        if many == 0:
            return 1 if size == 0 else 0
        return sum(counts[first] * self.rows(counts, many - 1, size - first) for first in range(1, size + 1))

    def pairs(self, keys, counts, many, size):
        """The sets of so many keys, with as many documents, with a size in all."""
        return sum(self.sets(keys, many, part) * self.rows(counts, many, size - part) for part in range(size + 1))

    def sets(self, keys, many, size):
        """The sets of so many keys with a size in all, by Newton's identities."""
        if many == 0:
            return 1 if size == 0 else 0
        total = 0
        for step in range(1, many + 1):
            for part in range(0, size + 1, step):
                total += (-1) ** (step - 1) * keys[part // step] * self.sets(keys, many - step, size - part)
        assert total % many == 0
        return total // many

    def test_numbers(self):
        chance = random.Random(3)
        counter = Counter()
        for n in range(1, 13):
            total = counter.how_many(n)
            numbers = sorted({0, total - 1, *[chance.randrange(total) for _ in range(12)]})
            documents = [counter.nth(n, k) for k in numbers]
            for k, document in zip(numbers, documents):
                self.assertEqual(len(document), n)
                self.assertEqual(counter.place_of(document), k)
                self.assertEqual(Document.of(read(document.data)), document)
            self.assertEqual(sorted(documents), documents)
        for value in (None, [1, {}], {1: "a", -1: None}, Tag(300, [(1, 2)]), {"a": {}, "b": 1}, [[[[[]]]]]):
            document = Document.of(value)
            self.assertEqual(counter.nth(len(document), counter.place_of(document)), document)

    def test_neighbours(self):
        chance = random.Random(4)
        counter = Counter()
        for n in (2, 5, 9, 12):
            for _ in range(6):
                k = chance.randrange(counter.how_many(n) - 1)
                self.assertLess(counter.nth(n, k), counter.nth(n, k + 1))

    def test_each(self):
        for n in range(4):
            found = [document.data for document in Counter().each(n)]
            self.assertEqual(found, [row for row in plain_rows(None, n) if len(row) == n])


class Sums(unittest.TestCase):
    """The count for a row is the sum of those for the row and one more byte."""

    def check(self, counter, n, row):
        self.assertEqual(counter.how_many(n, row), sum(counter.how_many(n, list(row) + [byte]) for byte in range(256)))

    def test_drawn_rows(self):
        chance = random.Random(5)
        for schema in (None, SMALL[9], SMALL[16], SMALL[17], SMALL[20], SMALL[25], Schema(Shape.maps(Shape.texts() | Shape.integers(), ANY)),
                       Schema(Shape.maps(ANY, Shape.tagged(3, ANY) | FEW)), Schema(Shape.lists(Shape.octets(1) | NONE)),
                       Schema(Shape.record({"a": ANY}, optional={"b": Shape.maps(Shape.octets(), ANY)}))):
            counter = Counter(schema)
            for _ in range(4):
                n = chance.randint(3, 12)
                total = counter.how_many(n)
                if total > 0:
                    document = counter.nth(n, chance.randrange(total))
                    for size in range(n):
                        self.assertGreater(counter.how_many(n, document.data[:size]), 0)
                        self.check(counter, n, document.data[:size])
                    self.assertEqual(counter.how_many(n, document), 1)
                    self.assertEqual(counter.how_many(n, list(document)), 1)

    def test_within_keys(self):
        pairs = [Shape.texts(), Shape.octets(), Shape.integers(), ANY, Shape.integers(-257, 257), Shape.texts(0, 2) | Shape.octets(1, 2)]
        rows = [[9], [9, 2], [9, 2, 4], [9, 2, 4, 63], [9, 2, 4, 64], [9, 2, 5], [9, 2, 5, 191], [9, 2, 5, 192], [9, 2, 6], [9, 2, 6, 1],
                [9, 2, 6, 2], [9, 2, 6, 2, 0], [9, 2, 6, 2, 255], [9, 2, 7], [9, 2, 7, 0], [9, 2, 7, 1], [9, 2, 7, 2], [9, 2, 7, 2, 97],
                [9, 2, 7, 2, 126], [9, 2, 5, 7, 1, 4], [9, 2, 5, 7, 1, 5], [9, 3, 6, 0, 1, 7, 1], [9, 2, 7, 1, 97, 1, 7], [9, 3, 7]]
        for key in pairs:
            counter = Counter(Schema(Shape.maps(key, NONE | FEW)))
            for row in rows:
                for n in (10, 12):
                    self.check(counter, n, row)

    def test_pairs_of_short_keys(self):
        # For each key the second ones are those behind it.
        schema = Schema(Shape.maps(Shape.texts(2, 2) | Shape.integers(-257, 257), NONE, least=2, most=2))
        counter = Counter(schema)
        signs = len(oracle.SIGNS)
        # Of 4 bytes are all these texts, and the keys -257, 256 and 257.
        self.assertEqual(counter.how_many(12), (signs ** 2 + 3) * (signs ** 2 + 2) // 2)
        for at, sign in enumerate(oracle.SIGNS):
            # Both keys begin with the sign, or only the first one does.
            left = signs - 1 - at
            self.assertEqual(counter.how_many(12, [9, 2, 7, 2, sign]), signs * (signs - 1) // 2 + signs * left * signs)
            self.assertEqual(counter.how_many(12, [9, 2, 7, 2, 97, sign]), left + signs * (signs - 1 - oracle.SIGNS.index(97)))
        # Of 2 bytes are the keys from -192 to 191, of 3 bytes those from -256 to 255 on both sides of them.
        self.assertEqual(counter.how_many(10, [9, 2, 5, 192]), 64 * 63 // 2)
        self.assertEqual(counter.how_many(11, [9, 2, 5, 192]), 64 * 2 + 64 * signs ** 2)
        self.assertEqual(counter.how_many(11, [9, 2, 5, 192, 255]), 2 + signs ** 2)
        self.assertEqual(counter.how_many(10, [9, 2, 4, 63, 1]), 62 + 64)
        self.assertEqual(counter.how_many(9, [9, 2, 4, 63]), 64 * (192 + 192))

    def test_rows_of_other_lengths(self):
        counter = Counter()
        for n in range(13):
            self.assertEqual(counter.how_many(n, [1]), 1 if n == 1 else 0)
            self.assertEqual(counter.how_many(n, [8, 2, 1, 1]), 1 if n == 4 else 0)
            self.assertEqual(counter.how_many(n, [1] * (n + 1)), 0)
            self.assertEqual(counter.how_many(n, [8, 13] + [1] * 13), 0)
            self.assertEqual(counter.how_many(n, [7, 20]), 0)
            self.assertEqual(counter.how_many(n, [8, 254] + [255] * 5), 0)

    def test_rows_that_are_not_alive(self):
        counter = Counter(Schema(Shape.lists(FEW)))
        for row in ([0], [255], [5], [8, 2, 7], [8, 1, 5, 2], [8, 0, 1], [8, 255], [8, 192, 0], [8, 2, 5, 1, 11]):
            for n in range(13):
                self.assertEqual(counter.how_many(n, row), 0)
                self.assertEqual(Counter().how_many(n, [0] + row), 0)

    def test_the_empty_row(self):
        for schema in (None, SMALL[3], SMALL[10]):
            counter = Counter(schema)
            for n in range(13):
                for row in ((), []):
                    self.assertEqual(counter.how_many(n, row), counter.how_many(n))
                if n > 0:
                    self.check(counter, n, [])


class Calls(unittest.TestCase):
    def test_numbers_of_no_document(self):
        for n in (0, 1, 2):
            total = Counter().how_many(n)
            for k in (-1, total, total + 1, 10 ** 399, -(10 ** 399), True, False, None, "", "0", (), (0,), [], [0], {}, Document.of(0), Tag(0, 0)):
                with self.assertRaises(NoDocument) as caught:
                    Counter().nth(n, k)
                self.assertIs(caught.exception.number, k)

    def test_documents_of_other_schemas(self):
        for shape, value, at in [(FEW, 2, 1), (FEW, None, 0), (Shape.lists(FEW), [1, 2], 5), (Shape.texts(0, 1), "ab", 1), (NONE, 5, 0),
                                 (Shape.record({"a": NONE}), {"b": None}, 4), (Shape.maps(FEW, NONE), {1: None, 2: None}, 3)]:
            with self.assertRaises(WrongByte) as caught:
                Counter(Schema(shape)).place_of(Document.of(value))
            self.assertEqual(caught.exception.at, at)
            with self.assertRaises(WrongByte) as caught:
                Document.read(Document.of(value), schema=Schema(shape))
            self.assertEqual(caught.exception.at, at)

    def test_each_is_a_generator_anew_at_each_call(self):
        counter = Counter(Schema(Shape.integers(0, 5)))
        one, two = counter.each(2), counter.each(2)
        self.assertTrue(inspect.isgenerator(one))
        self.assertEqual([next(one), next(one)], [Document.of(0), Document.of(1)])
        self.assertEqual([document.value() for document in two], list(range(6)))
        self.assertEqual([document.value() for document in one], list(range(2, 6)))
        self.assertEqual(list(counter.each(3)), [])
        self.assertEqual(list(counter.each(0)), [])

    def test_by_name_and_by_position(self):
        counter = Counter(schema=Schema(Shape.integers(0, 5)))
        self.assertEqual(counter.how_many(n=2, row=[5]), 6)
        self.assertEqual(counter.how_many(2, (5, 3)), 1)
        self.assertEqual(counter.nth(n=2, k=3), Document.of(3))
        self.assertEqual(counter.place_of(document=Document.of(4)), 4)
        self.assertEqual(len(list(counter.each(n=2))), 6)
        self.assertEqual(Counter(None).how_many(1), 3)
        self.assertEqual(Counter(Schema(Shape.integers(0, 5))).how_many(2), 6)

    def test_rows_stay_as_they_were(self):
        row = [8, 1]
        Counter().how_many(3, row)
        self.assertEqual(row, [8, 1])
        self.assertEqual(Counter().how_many(3, Document.of(None)), 0)

    def test_entries_that_are_no_bytes(self):
        for entry in NO_BYTES:
            self.assertEqual(Counter().how_many(3, [8, entry]), 0)

    def test_great_levels(self):
        # Below 23 tags there is one level for nests; below 24 there is none.
        self.assertEqual(Counter(Schema(oracle.padded(23, ANY))).how_many(12), 0)
        counter = Counter(Schema(Shape.just([[]]) | Shape.tagged(1, Shape.just(None))))
        self.assertEqual([counter.how_many(n) for n in range(13)], [0, 0, 0, 1, 1] + [0] * 8)

    def test_somewhat_longer(self):
        counter = Counter(Schema(Shape.lists(FEW)))
        self.assertEqual([counter.how_many(n) for n in range(2, 22, 2)], [3 ** count for count in range(10)])
        self.assertEqual(counter.place_of(Document.of([1] * 8)), 3 ** 8 - 1)

    def test_many_by_number(self):
        begun = time.perf_counter()
        schema = Schema(Shape.maps(Shape.texts(), Shape.lists(ANY) | FEW))
        counter = Counter(schema)
        chance = random.Random(6)
        for _ in range(40):
            k = chance.randrange(counter.how_many(12))
            document = counter.nth(12, k)
            self.assertEqual(counter.place_of(document), k)
            self.assertTrue(schema.matches(document.value()))
        self.assertLess(time.perf_counter() - begun, 20)

    def test_place_of_never_raises_unfinished(self):
        for value in (None, [[]], {1: 2}, Tag(3, "a")):
            for schema in SMALL:
                try:
                    Counter(schema).place_of(Document.of(value))
                except WrongByte:
                    pass
                except Unfinished:
                    self.fail("unfinished")


if __name__ == "__main__":
    unittest.main()
