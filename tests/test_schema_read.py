"""Documents read by a schema: the first wrong byte and unfinished data."""

import random
import unittest

import oracle
from oracle import code, integer
from test_document_read import NO_BYTES, told
from test_values import DOCUMENTS, nested

from shortestbytes.courses import Course
from shortestbytes.counts import MOST
from shortestbytes.documents import Document
from shortestbytes.errors import Barren, WrongByte
from shortestbytes.schemas import Schema
from shortestbytes.shapes import Shape
from shortestbytes.values import Tag

ANY = Shape.anything()
NONE = Shape.just(None)
DEEP = Shape.lists(ANY, least=1)


def next_bytes(begun, schema):
    """The bytes that can come behind a row that has no wrong byte."""
    found = [byte for byte in range(256) if told([*begun, byte], schema=schema) != ("wrong", len(begun))]
    for byte in found:
        assert told([*begun, byte], schema=schema) in (("unfinished", len(begun) + 1), (*begun, byte))
    return found


def span(*ranges):
    return [byte for low, high in ranges for byte in range(low, high + 1)]


# How many tags a shape and its documents are put below, to try it at great levels.
DEPTHS = (0, 18, 20, 21, 22, 23)


class Reading(unittest.TestCase):
    def next(self, shape, begun, expected, **named):
        self.assertEqual(next_bytes(begun, Schema(shape, named)), span(*expected))

    def read(self, shape, good, bad):
        schema = Schema(shape)
        for value in good:
            document = Document.of(value)
            self.assertEqual(told(document.data, schema=schema), document.data)
            self.assertIs(schema.matches(value), True)
            for size in range(len(document)):
                self.assertEqual(told(document.data[:size], schema=schema), ("unfinished", size))
            self.assertEqual(told([*document.data, 1], schema=schema), ("wrong", len(document)))
        for value in bad:
            self.assertEqual(told(Document.of(value).data, schema=schema)[0], "wrong")
            self.assertIs(schema.matches(value), False)

    def test_anything(self):
        self.read(ANY, [value for value, _ in DOCUMENTS], [])
        for at in range(30):
            self.assertEqual(told([9, 2, 7, 1, 126, 1, 7, 1][:at], schema=Schema(ANY)), told([9, 2, 7, 1, 126, 1, 7, 1][:at]))

    def test_just(self):
        values = [value for value, row in DOCUMENTS if len(row) < 20]
        for at, value in enumerate(values):
            self.read(Shape.just(value), [value], values[:at] + values[at + 1:])
            row = Document.of(value).data
            for size in range(len(row)):
                self.assertEqual(next_bytes(row[:size], Schema(Shape.just(value))), [row[size]])

    def test_integers(self):
        # The example of the document: from 300 to 310.
        self.next(Shape.integers(300, 310), [5], [(193, 193)])
        self.next(Shape.integers(300, 310), [5, 193], [(1, 1)])
        self.next(Shape.integers(300, 310), [5, 193, 1], [(44, 54)])
        self.assertEqual(told([5, 193, 1, 55], schema=Schema(Shape.integers(300, 310))), ("wrong", 3))
        self.next(Shape.integers(-5, 5), [], [(4, 5)])
        self.next(Shape.integers(-5, 5), [4], [(251, 255)])
        self.next(Shape.integers(-5, 5), [5], [(0, 5)])
        self.next(Shape.integers(-5, -1), [], [(4, 4)])
        self.next(Shape.integers(0, 0), [], [(5, 5)])
        self.next(Shape.integers(190, 70000), [5], [(190, 194)])
        self.next(Shape.integers(190, 70000), [5, 194], [(1, 1)])
        self.next(Shape.integers(190, 70000), [5, 194, 1], [(0, 17)])
        self.next(Shape.integers(190, 70000), [5, 194, 1, 17], [(0, 112)])
        self.next(Shape.integers(190, 70000), [5, 194, 1, 16], [(0, 255)])
        self.next(Shape.integers(-300, -200), [4], [(62, 63)])
        self.next(Shape.integers(-300, -200), [4, 62], [(254, 254)])
        self.next(Shape.integers(-300, -200), [4, 62, 254], [(212, 255)])
        self.next(Shape.integers(-300, -200), [4, 63], [(0, 56)])
        self.read(Shape.integers(-300, 300), [-300, -1, 0, 300], [-301, 301, None, True, False, "", (), [0], {}])
        self.read(Shape.integers(), [-1 - MOST, -1, 0, MOST], [None, True, "1", [1]])
        self.read(Shape.integers(low=5), [5, MOST], [4, -1 - MOST])
        self.read(Shape.integers(high=5), [5, -1 - MOST], [6, MOST])

    def test_lengths(self):
        for shape, kind, content, signs in [
            (Shape.texts, 7, "a", [(9, 10), (32, 36), (38, 126)]), (Shape.octets, 6, (97,), [(0, 255)]),
        ]:
            self.next(shape(), [], [(kind, kind)])
            self.next(shape(), [kind], [(0, 254)])
            self.next(shape(190, 300), [kind], [(190, 193)])
            self.next(shape(190, 300), [kind, 192], [(192, 255)])
            self.next(shape(190, 300), [kind, 193], [(1, 1)])
            self.next(shape(190, 300), [kind, 193, 1], [(0, 44)])
            self.next(shape(2, 3), [kind], [(2, 3)])
            self.next(shape(2, 3), [kind, 3], signs)
            self.next(shape(2, 3), [kind, 3, 97, 97], signs)
            self.read(shape(2, 3), [content * 2, content * 3], [content, content * 4, content * 0, None, 2, [1, 2]])
            self.read(shape(400), [content * 400, content * 401], [content * 399])
            self.read(shape(most=0), [content * 0], [content])

    def test_lists(self):
        lists = Shape.lists(Shape.integers(0, 3), least=1, most=3)
        self.next(lists, [8], [(1, 3)])
        self.next(lists, [8, 2, 5, 1], [(5, 5)])
        self.next(lists, [8, 2, 5], [(0, 3)])
        self.read(lists, [[0], [3, 2, 1]], [[], [0] * 4, [4], [True], None, {}, "ab"])
        self.read(Shape.lists(ANY), [[], [None, [[]], {1: 2}]], [{}, Tag(8, 1)])
        self.read(Shape.lists(NONE, least=2), [[None] * 2, [None] * 500], [[None], [None, None, False]])

    def test_rows(self):
        rows = Shape.rows(Shape.integers(0, 3), Shape.texts() | NONE)
        self.next(rows, [8], [(2, 2)])
        self.next(rows, [8, 2], [(5, 5)])
        self.next(rows, [8, 2, 5, 0], [(1, 1), (7, 7)])
        self.read(rows, [[0, "a"], [3, None]], [[], [0], [0, 0], ["a", 0], [0, "a", 1], {0: "a"}])
        self.read(Shape.rows(), [[]], [[1], {}])
        self.read(Shape.rows(*[NONE] * 40), [[None] * 40], [[None] * 39])

    def test_tags(self):
        # The example of the document: the numbers 3 and 300.
        tags = Shape.tagged(3, NONE) | Shape.tagged(300, Shape.integers(0, 9))
        self.next(tags, [10], [(3, 3), (193, 193)])
        self.next(tags, [10, 193], [(1, 1)])
        self.next(tags, [10, 193, 1], [(44, 44)])
        self.next(tags, [10, 193, 1, 44], [(5, 5)])
        self.next(tags, [10, 3], [(1, 1)])
        self.read(tags, [Tag(3, None), Tag(300, 9)], [Tag(3, 9), Tag(300, None), Tag(301, 9), 3, None, [None]])
        tags = Shape.tagged(3, ANY) | Shape.just(Tag(256, 1)) | Shape.just(Tag(257, 2)) | Shape.tagged(191, ANY)
        self.next(tags, [10], [(3, 3), (191, 191), (193, 193)])
        self.next(tags, [10, 193, 1], [(0, 1)])
        self.next(tags, [10, 193, 1, 1, 5], [(2, 2)])
        self.read(Shape.tagged(MOST, ANY), [Tag(MOST, [1])], [Tag(0, [1])])

    def test_choices_and_names(self):
        shape = Shape.named("b") | Shape.named("a")
        named = {"a": NONE | Shape.named("c"), "b": Shape.integers(0, 1), "c": Shape.texts() | Shape.lists(Shape.named("a"))}
        self.next(shape, [], [(1, 1), (5, 5), (7, 8)], **named)
        self.next(shape, [8, 1], [(1, 1), (7, 8)], **named)

    def test_recursive_names(self):
        tree = {"tree": Shape.lists(Shape.named("tree"), most=2)}
        schema = Schema(Shape.named("tree"), tree)
        self.assertEqual(next_bytes([8, 2] * 22, schema), [8])
        self.assertEqual(next_bytes([8, 2] * 22 + [8], schema), [0, 1, 2])
        self.assertEqual(next_bytes([8, 2] * 23 + [8], schema), [0])
        chain = Schema.of(Shape.named("one"), one=NONE | Shape.tagged(1, Shape.named("one")))
        self.assertEqual(next_bytes([10, 1] * 23, chain), [1, 10])
        self.assertEqual(next_bytes([10, 1] * 24, chain), [1])


class Maps(unittest.TestCase):
    next = Reading.next
    read = Reading.read

    def test_few_keys(self):
        # The example of the document: with three pairs the first key is at most 3.
        maps = Shape.maps(Shape.integers(0, 5), NONE)
        self.next(maps, [9], [(0, 6)])
        self.next(maps, [9, 3, 5], [(0, 3)])
        self.next(maps, [9, 3, 5, 2, 1, 5], [(3, 4)])
        self.next(maps, [9, 3, 5, 2, 1, 5, 4, 1, 5], [(5, 5)])
        self.next(maps, [9, 6, 5], [(0, 0)])
        self.assertEqual(told([9, 7], schema=Schema(maps)), ("wrong", 1))
        self.read(maps, [{}, {0: None, 5: None}, dict.fromkeys(range(6))], [{6: None}, {0: 1}, {"": None}, [], None])

    def test_least_and_most(self):
        maps = Shape.maps(Shape.integers(0, 9), ANY, least=2, most=4)
        self.next(maps, [9], [(2, 4)])
        self.read(maps, [{1: 1, 2: 2}, dict.fromkeys(range(4))], [{}, {1: 1}, dict.fromkeys(range(5))])
        self.next(Shape.maps(Shape.texts(), ANY, least=200, most=200), [9], [(192, 192)])
        self.next(Shape.maps(Shape.texts(), ANY, least=200, most=200), [9, 192], [(200, 200)])

    def test_keys_about_zero(self):
        maps = Shape.maps(Shape.integers(-2, 1), NONE)
        self.next(maps, [9], [(0, 4)])
        self.next(maps, [9, 4], [(4, 4)])
        self.next(maps, [9, 4, 4], [(254, 254)])
        self.next(maps, [9, 2], [(4, 5)])
        self.next(maps, [9, 2, 5], [(0, 0)])
        self.next(maps, [9, 2, 4, 254, 1], [(4, 5)])
        self.next(maps, [9, 2, 4, 255, 1], [(5, 5)])
        self.next(maps, [9, 3], [(4, 4)])
        self.next(maps, [9, 3, 4], [(254, 255)])

    def test_short_texts(self):
        maps = Shape.maps(Shape.texts(0, 1), NONE)
        self.next(maps, [9], [(0, 97)])
        self.next(maps, [9, 97], [(7, 7)])
        self.next(maps, [9, 97, 7], [(0, 0)])
        self.next(maps, [9, 96, 7], [(0, 1)])
        self.next(maps, [9, 96, 7, 1], [(9, 9)])
        self.next(maps, [9, 94, 7, 1], [(9, 10), (32, 32)])
        self.next(maps, [9, 2, 7, 1], [(9, 10), (32, 36), (38, 125)])
        self.next(maps, [9, 2, 7, 1, 36, 1, 7, 1], [(38, 126)])

    def test_anything_as_keys(self):
        maps = Shape.maps(ANY, NONE)
        self.next(maps, [9], [(0, 254)])
        self.next(maps, [9, 2], [(4, 7)])
        self.next(maps, [9, 2, 6, 1, 255, 1], [(6, 7)])
        self.next(maps, [9, 254] + [255] * 63, [(4, 7)])
        self.read(maps, [{-1: None, 1: None, (): None, "": None}], [{1: 1}])

    def test_all_integers_as_keys(self):
        maps = Shape.maps(Shape.integers(), NONE)
        begun = [9, 254] + [255] * 63
        # There are 2 * (MOST + 1) keys for MOST pairs, so the first key is at most 1.
        self.next(maps, [9, 254], [(1, 255)])
        self.next(maps, begun, [(4, 5)])
        self.next(maps, begun + [5], [(0, 1)])
        maps = Shape.maps(Shape.integers(1), NONE)
        self.next(maps, begun + [5], [(1, 1)])
        self.next(Shape.maps(Shape.integers(2), NONE), [9, 254] + [255] * 62, [(0, 254)])

    def test_a_great_many_keys(self):
        begun = [9, 254] + [255] * 63
        # The octets of up to 62 bytes and two more are too many by one.
        maps = Shape.maps(Shape.octets(0, 63), NONE)
        self.next(maps, begun + [6], [(0, 63)])
        self.next(maps, begun + [6, 63] + [0] * 61, [(0, 0)])
        self.next(maps, begun + [6, 63] + [0] * 62, [(0, 1)])
        self.next(Shape.maps(Shape.octets(0, 64), NONE), begun + [6, 64], [(0, 255)])
        self.next(Shape.maps(Shape.octets(0, 62), NONE), [9, 254], [(1, 1)])
        self.next(Shape.maps(Shape.octets(0, 62), NONE), [9, 254] + [1] * 62, [(0, 1)])
        self.next(Shape.maps(Shape.texts(0, 400), NONE), begun + [7, 193, 1], [(0, 144)])
        self.next(Shape.maps(Shape.texts(0, 400), NONE), begun + [7, 193, 1, 144] + [126] * 320, [(9, 10), (32, 36), (38, 126)])

    def test_the_longest_keys_with_a_bound(self):
        texts = Shape.maps(Shape.texts(400, 400), NONE)
        begun = [9, 2, 7, 193, 1, 144]
        self.next(texts, begun[:5], [(144, 144)])
        self.next(texts, begun + [126] * 398, [(9, 10), (32, 36), (38, 126)])
        self.next(texts, begun + [126] * 399, [(9, 10), (32, 36), (38, 125)])
        octets = Shape.maps(Shape.octets(0, 400), NONE)
        self.next(octets, [9, 3, 6, 193, 1, 144] + [255] * 399, [(0, 253)])
        self.next(octets, [9, 3, 6, 193, 1, 144] + [255] * 399 + [250, 1, 6, 193, 1, 144] + [255] * 399, [(251, 254)])

    def test_a_great_many_texts(self):
        total = sum(96 ** size for size in range(79))
        # The place of the last possible first key among the texts of 78 characters.
        place = total - MOST - sum(96 ** size for size in range(78))
        last = []
        for _ in range(78):
            last.append(oracle.SIGNS[place % 96])
            place //= 96
        last.reverse()
        schema = Schema(Shape.maps(Shape.texts(0, 78), NONE))
        begun = [9, 254] + [255] * 63 + [7, 78]
        for at in (0, 1, 2, 40, 66, 67, 68, 76, 77):
            expected = [sign for sign in oracle.SIGNS if sign <= last[at]]
            self.assertEqual(next_bytes(begun + last[:at], schema), expected)

    def test_long_lengths_as_keys(self):
        maps = Shape.maps(Shape.texts(2), NONE)
        self.next(maps, [9, 254] + [255] * 63 + [7], [(2, 254)])
        self.next(maps, [9, 3, 7, 2, 126, 126, 1, 7], [(3, 254)])
        self.next(maps, [9, 3, 7, 254] + [255] * 63, [(9, 10), (32, 36), (38, 126)])
        self.next(Shape.maps(Shape.texts() | Shape.octets(0, 0), NONE), [9, 2], [(6, 7)])
        self.next(Shape.maps(Shape.octets() | Shape.texts(0, 0), NONE), [9, 2], [(6, 6)])
        self.next(Shape.maps(Shape.octets() | Shape.texts(0, 0), NONE), [9, 2, 6, 0, 1], [(6, 7)])

    def test_many_mixed_keys(self):
        """Each byte of some keys, for many places of the key before and many numbers of pairs left."""
        keys = sorted([*oracle.contents(6, 0, 1), *oracle.contents(7, 0, 1), *map(integer, range(-3, 300))])
        shape = Shape.maps(Shape.texts(0, 1) | Shape.integers(-3, 299) | Shape.octets(0, 1), NONE)
        grammar = Schema(shape).grammar()
        chance = random.Random(3)
        for _ in range(150):
            many = chance.choice([1, 2, 3, 97, 98, 99, 354, 355, 356, 650, 655, 657])
            at = chance.randrange(len(keys) - many + 1)
            begun = [] if chance.random() < 0.3 else [keys[at]]
            choices = keys[at + 1 if begun else 0:len(keys) - (many - len(begun) - 1)] if many > len(begun) else []
            alive = oracle.beginnings(choices)
            for row in chance.sample(choices, min(3, len(choices))) + choices[:1] + choices[-1:]:
                course = Course(grammar)
                for byte in [9, *code(many), *[byte for key in begun for byte in (*key, 1)]]:
                    course.take(byte)
                for size, byte in enumerate(row):
                    self.assertEqual(span(*course.ranges()), sorted(alive[row[:size]]))
                    self.assertTrue(all(low <= high for low, high in course.ranges()))
                    course.take(byte)

    def test_record(self):
        record = Shape.record({"b": NONE, "d": NONE}, optional={"a": NONE, "c": NONE, "e": NONE})
        self.next(record, [9], [(2, 5)])
        key = [7, 1]
        # All pairs are required ones.
        self.next(record, [9, 2] + key, [(98, 98)])
        self.next(record, [9, 2] + key + [98, 1] + key, [(100, 100)])
        # One optional key.
        self.next(record, [9, 3] + key, [(97, 98)])
        self.next(record, [9, 3] + key + [97, 1] + key, [(98, 98)])
        self.next(record, [9, 3] + key + [98, 1] + key, [(99, 100)])
        self.next(record, [9, 3] + key + [98, 1] + key + [100, 1] + key, [(101, 101)])
        # As many as there are.
        self.next(record, [9, 5] + key, [(97, 97)])
        self.next(record, [9, 5] + key + [97, 1] + key + [98, 1] + key, [(99, 99)])
        # The keys behind must suffice.
        self.next(record, [9, 4] + key, [(97, 98)])
        self.next(record, [9, 4] + key + [98, 1] + key, [(99, 99)])
        self.read(record, [{"b": None, "d": None}, dict.fromkeys("abcde"), dict.fromkeys("bde")],
                  [{}, {"b": None}, dict.fromkeys("abc"), dict.fromkeys("bdf"), {"b": 1, "d": None}, [None, None]])

    def test_record_of_keys_of_all_kinds(self):
        keys = [-300, -257, 5, 300, 301, (), (0,), "", "a", "aa", "ab"]
        record = Shape.record({}, optional={key: Shape.just(key) for key in keys})
        self.next(record, [9, 1], [(4, 7)])
        self.next(record, [9, 1, 4, 62, 254], [(212, 212), (255, 255)])
        self.next(record, [9, 1, 5], [(5, 5), (193, 193)])
        self.next(record, [9, 1, 5, 193, 1], [(44, 45)])
        self.next(record, [9, 1, 7], [(0, 2)])
        self.next(record, [9, 1, 7, 2, 97], [(97, 98)])
        self.next(record, [9, 2, 7, 2, 97], [(97, 97)])
        self.read(record, [{}, {key: key for key in keys}, {5: 5}], [{5: 6}, {6: 6}, {"b": "b"}])
        self.read(Shape.record({}), [{}], [{1: 1}, []])

    def test_true_is_not_one(self):
        self.read(Shape.record({1: Shape.just(1)}), [{1: 1}], [{1: True}])
        self.read(Shape.record({1: Shape.just(True)}), [{1: True}], [{1: 1}])
        self.read(Shape.just([True, {0: False}]), [[True, {0: False}]], [[1, {0: False}], [True, {0: 0}]])

    def test_fields(self):
        fields = Shape.fields(name=Shape.texts(1), age=Shape.integers(0, 150))
        self.read(fields, [{"name": "a", "age": 5}], [{"name": "a"}, {"name": "a", "age": 5, "b": 1}, {"name": "", "age": 5}])
        self.next(fields, [9, 2, 7], [(3, 3)])


class Levels(unittest.TestCase):
    def next(self, shape, depth, begun, expected):
        """The bytes that can come next if the shape stands below so many tags."""
        schema = Schema(nested(depth, lambda one: Shape.tagged(7, one), shape))
        self.assertEqual(next_bytes((10, 7) * depth + tuple(begun), schema), span(*expected))

    def test_anything(self):
        self.next(ANY, 23, [], [(1, 10)])
        self.next(ANY, 24, [], [(1, 7)])
        for kind, begun in [(8, [8, 1]), (9, [9, 1, 5, 1]), (10, [10, 1])]:
            self.next(ANY, 22, begun, [(1, 10)])
            self.next(ANY, 23, begun, [(1, 7)])

    def test_choice_of_depths(self):
        choice = NONE | DEEP | Shape.tagged(1, Shape.rows()) | Shape.tagged(2, NONE)
        self.next(choice, 22, [], [(1, 1), (8, 8), (10, 10)])
        self.next(choice, 22, [10], [(1, 2)])
        self.next(choice, 23, [], [(1, 1), (8, 8), (10, 10)])
        self.next(choice, 23, [10], [(2, 2)])
        self.next(choice, 24, [], [(1, 1)])

    def test_lists_and_maps_that_must_be_empty(self):
        for depth, expected in [(22, [(0, 3)]), (23, [(0, 0)])]:
            self.next(Shape.lists(DEEP, most=3), depth, [8], expected)
            self.next(Shape.maps(Shape.integers(0, 9), DEEP, most=3), depth, [9], expected)
        for shape, kind in [(Shape.lists(DEEP, least=1), 8), (Shape.maps(ANY, DEEP, least=1), 9), (Shape.rows(DEEP), 8),
                            (Shape.record({1: DEEP}), 9), (Shape.tagged(3, DEEP), 10)]:
            self.next(shape | NONE, 22, [], [(1, 1), (kind, kind)])
            self.next(shape | NONE, 23, [], [(1, 1)])

    def test_optional_keys_that_must_not_come(self):
        record = Shape.record({2: NONE}, optional={1: DEEP, 3: ANY, 4: DEEP})
        self.next(record, 22, [9], [(1, 4)])
        self.next(record, 22, [9, 2, 5], [(1, 2)])
        self.next(record, 23, [9], [(1, 2)])
        self.next(record, 23, [9, 2, 5], [(2, 2)])
        self.next(record, 23, [9, 2, 5, 2, 1, 5], [(3, 3)])
        self.next(record, 23, [9, 2, 5, 2, 1, 5, 3], [(1, 7)])

    def test_just_a_deep_value(self):
        deep = Shape.just([[[]], 5])
        self.next(deep | NONE, 21, [], [(1, 1), (8, 8)])
        self.next(deep | NONE, 22, [], [(1, 1)])


class Wrong(unittest.TestCase):
    def test_entries_that_are_no_bytes(self):
        schema = Schema(Shape.maps(ANY, Shape.octets(0, 3)))
        row = [9, 2, 5, 1, 6, 1, 9, 7, 1, 97, 6, 0]
        self.assertEqual(told(row, schema=schema), tuple(row))
        for entry in NO_BYTES:
            for at in range(len(row) + 1):
                self.assertEqual(told(row[:at] + [entry] + row[at:], schema=schema), ("wrong", at))

    def test_data_may_be_a_document(self):
        schema = Schema(Shape.integers(0, 9))
        self.assertEqual(Document.read(Document.of(5), schema=schema), Document.of(5))
        with self.assertRaises(WrongByte) as caught:
            Document.read(Document.of(10), schema=schema)
        self.assertEqual(caught.exception.at, 1)

    def test_one_schema_many_times(self):
        schema = Schema(Shape.maps(Shape.integers(0, 3), ANY, most=3))
        for _ in range(3):
            self.assertEqual(told([9, 3, 5, 2], schema=schema), ("wrong", 3))
            self.assertEqual(told([9, 1, 5, 3, 1], schema=schema), (9, 1, 5, 3, 1))


class AgainstOracle(unittest.TestCase):
    """Schemas with so few documents that all of them can be written out another way."""

    def test_schemas_by_chance(self):
        compared = 0
        for chance, root, names in oracle.drawn_plans(range(100)):
            for depth in DEPTHS:
                try:
                    found = oracle.made(root, names, depth, 800)
                except Barren as error:
                    self.refused(error.name, root, names, depth)
                    continue
                if found is not None:
                    self.compare(*found, chance)
                    compared += 1
        self.assertGreater(compared, 200)

    def refused(self, name, root, names, depth):
        plan, budget = (root, 24 - depth) if name is None else (names[name], 24)
        try:
            self.assertEqual(oracle.Oracle(names, 3000).documents(plan, budget), [])
        except oracle.TooMany:
            pass

    def compare(self, schema, rows, chance):
        alive = oracle.beginnings(rows)
        for row in chance.sample(rows, min(60, len(rows))):
            course = Course(schema.grammar())
            for at in range(len(row) + 1):
                ranges = course.ranges()
                self.assertEqual(span(*ranges), sorted(alive[row[:at]]))
                self.assertTrue(all(one[1] + 1 < two[0] for one, two in zip(ranges, ranges[1:])))
                if at < len(row):
                    course.take(row[at])
            self.assertTrue(course.is_over())
            self.assertTrue(schema.matches(Document.read(row, schema=schema).value()))
        self.assertEqual(schema.least_depth(), min(Document.read(row).depth() for row in rows))


if __name__ == "__main__":
    unittest.main()
