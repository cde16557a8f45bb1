"""Readers: streams in pieces, what is allowed, places, debts, completions, copies and states."""

import random
import time
import unittest

import oracle
from test_document_read import NO_BYTES
from test_values import DOCUMENTS, in_tag, nested

from shortestbytes.counts import MOST
from shortestbytes.documents import Document
from shortestbytes.errors import TooLong, WrongByte
from shortestbytes.reading import first_wrong
from shortestbytes.readers import Reader
from shortestbytes.schemas import Schema
from shortestbytes.shapes import Shape
from shortestbytes.values import Tag

ANY = Shape.anything()
NONE = Shape.just(None)
VALUES = [None, [None, 5], {1: "a", -1: None}, "", Tag(3, []), (1, 255), {"~": 1, "aa": [{}]}, True, [[], [[300]]], -193]
STREAM = [byte for value in VALUES for byte in Document.of(value).data]
DEPTHS = (0, 20, 22)


def span(*ranges):
    return [byte for low, high in ranges for byte in range(low, high + 1)]


def taken_bytes(reader):
    """The bytes that a reader takes next, by trying all of them."""
    found = []
    for byte in range(256):
        twin = reader.copy()
        try:
            twin.feed([byte])
            found.append(byte)
        except WrongByte as error:
            assert error.at == reader.position == twin.position
    return found


def fed(data, schema=None):
    reader = Reader(schema)
    reader.feed(data)
    return reader


class Feeding(unittest.TestCase):
    def refused(self, reader, data):
        with self.assertRaises(WrongByte) as caught:
            reader.feed(data)
        return caught.exception.at

    def test_examples(self):
        reader = Reader()
        self.assertEqual(reader.feed([2, 8, 2]), 1)
        self.assertEqual([reader.position, reader.is_between, reader.allowed(), reader.place(), reader.owed()],
                         [3, False, [(1, 10)], (0,), 2])
        reader = Reader()
        self.assertEqual(reader.feed([7, 2, 97]), 0)
        self.assertEqual(self.refused(reader, [98, 0]), 4)

    def test_a_reader_that_has_taken_nothing(self):
        for reader in (Reader(), Reader(None), Reader(schema=None), Reader(Schema(ANY))):
            self.assertEqual([reader.position, reader.is_between, reader.finished(), reader.place(), reader.owed()],
                             [0, True, [], (), 0])
            self.assertEqual(reader.completion(), [])
            self.assertEqual(reader.allowed(), [(1, 10)])
            self.assertIs(type(reader.position), int)
            self.assertIs(reader.is_between, True)

    def test_pieces_of_every_size(self):
        for size in list(range(1, 12)) + [len(STREAM)]:
            reader, many = Reader(), 0
            for at in range(0, len(STREAM), size):
                many += reader.feed(STREAM[at:at + size])
                self.assertEqual(reader.feed([]), 0)
                end = min(at + size, len(STREAM))
                self.assertEqual(reader.position, end)
                self.assertEqual(len(reader.finished()), many)
                self.assertEqual(reader.finished(), VALUES[:many])
                rows = [len(Document.of(value)) for value in VALUES]
                whole = [sum(rows[:count]) for count in range(len(rows) + 1)]
                self.assertIs(reader.is_between, end in whole)
                self.assertEqual(many, len([start for start in whole[1:] if start <= end]))
            self.assertEqual(many, len(VALUES))

    def test_cut_by_chance(self):
        chance = random.Random(8)
        whole = fed(STREAM)
        for _ in range(50):
            reader, at, told = Reader(), 0, 0
            while at < len(STREAM):
                size = chance.choice([0, 1, 2, 3, 5, 20])
                told += reader.feed(tuple(STREAM[at:at + size]))
                at += size
                twin = fed(STREAM[:at])
                for question in ("allowed", "place", "owed", "completion", "finished", "state"):
                    self.assertEqual(getattr(reader, question)(), getattr(twin, question)())
            self.assertEqual((told, reader.finished(), reader.position), (len(VALUES), whole.finished(), whole.position))

    def test_tuples_and_documents(self):
        reader = Reader()
        self.assertEqual(reader.feed(Document.of([1])), 1)
        self.assertEqual(reader.feed((8, 1)), 0)
        self.assertEqual(reader.feed(Document.of({})), 1)
        self.assertEqual(reader.feed(data=[1, 1]), 2)
        self.assertEqual(reader.finished(), [[1], [{}], None, None])

    def test_refused_entries(self):
        data = [1, 8, 2, 5, 5]
        for entry in NO_BYTES + [0, 11, 255]:
            reader = Reader()
            self.assertEqual(self.refused(reader, data + [entry, 1, 1]), 5)
            self.assertEqual((reader.position, reader.is_between, reader.finished()), (5, False, [None]))
            self.assertEqual(self.refused(reader, (entry,)), 5)
            self.assertEqual((reader.position, reader.owed(), reader.place()), (5, 1, (1,)))
            self.assertEqual(reader.feed([3, 2]), 2)
            self.assertEqual((reader.position, reader.finished()), (7, [None, [5, True], False]))
            self.assertEqual(self.refused(reader, [entry]), 7)
            self.assertIs(reader.is_between, True)

    def test_refused_behind_finished_documents(self):
        reader = Reader()
        self.assertEqual(self.refused(reader, [1, 2, 3, 5, 192, 191]), 5)
        self.assertEqual((reader.finished(), reader.position, reader.place()), ([None, False, True], 5, ()))
        self.assertEqual(reader.feed([192]), 1)
        self.assertEqual(reader.finished()[3:], [192])

    def test_what_was_passed_stays_as_it_was(self):
        data = [8, 1, 8, 0]
        reader = fed(data)
        self.assertEqual(data, [8, 1, 8, 0])
        data[0] = 5
        self.assertEqual(reader.finished(), [[[]]])

    def test_finished_is_told_anew(self):
        reader = fed([8, 1, 9, 1, 5, 1, 8, 0])
        found = reader.finished()
        found[0][0][1].append(3)
        found.append(5)
        self.assertEqual(reader.finished(), [[{1: []}]])
        self.assertEqual(list(fed(Document.of({"b": 1, 2: 3, -1: 4})).finished()[0]), [-1, 2, "b"])

    def test_by_schema(self):
        reader = Reader(Schema(Shape.integers(300, 310) | NONE))
        self.assertEqual(reader.feed([1, 5, 193, 1]), 1)
        self.assertEqual(self.refused(reader, [55]), 4)
        self.assertEqual(reader.allowed(), [(44, 54)])
        self.assertEqual(reader.feed([54, 1]), 2)
        self.assertEqual(self.refused(reader, [2]), 6)
        self.assertEqual(reader.allowed(), [(1, 1), (5, 5)])
        self.assertEqual(reader.finished(), [None, 310, None])

    def test_a_long_stream(self):
        rows = ["ab" * 3000, [None] * 3000, {number: None for number in range(1200)}, nested(24, in_tag)]
        data = [byte for row in rows for byte in Document.of(row).data]
        begun = time.perf_counter()
        reader = Reader()
        for byte in data:
            reader.feed([byte])
        self.assertEqual(reader.finished(), rows)
        self.assertEqual(fed(data).finished(), rows)
        self.assertLess(time.perf_counter() - begun, 20)

    def test_two_readers_share_nothing(self):
        schema = Schema(Shape.lists(ANY))
        one, two = Reader(schema), Reader(schema)
        one.feed([8, 2, 1])
        self.assertEqual((two.position, two.allowed(), two.place()), (0, [(8, 8)], ()))
        two.feed([8, 0])
        self.assertEqual((one.position, one.finished(), one.owed()), (3, [], 1))

    def test_position_and_is_between_are_properties(self):
        for name in ("position", "is_between"):
            self.assertIsInstance(vars(Reader)[name], property)


class Allowed(unittest.TestCase):
    def check(self, begun, expected, schema=None):
        reader = fed(begun, schema)
        self.assertEqual(reader.allowed(), expected)
        self.assertEqual(taken_bytes(reader), span(*expected))
        self.assertIs(type(reader.allowed()), list)
        self.assertEqual({type(found) for found in reader.allowed()}, {tuple})
        reader.allowed().clear()
        self.assertEqual(reader.allowed(), expected)

    def test_kind_bytes(self):
        self.check([], [(1, 10)])
        self.check([1], [(1, 10)])
        self.check([8, 1], [(1, 10)])
        self.check([9, 1], [(4, 7)])
        self.check([9, 1, 5, 1], [(1, 10)])
        self.check([10, 7], [(1, 10)])

    def test_behind_each_kind_byte(self):
        self.check([4], [(1, 255)])
        for kind in range(5, 11):
            self.check([kind], [(0, 254)])

    def test_within_codes(self):
        for kind in range(5, 11):
            self.check([kind, 192], [(192, 255)])
            for first in (193, 200, 254):
                self.check([kind, first], [(1, 255)])
                self.check([kind, first, 1], [(0, 255)])
        self.check([4, 63], [(0, 63)])
        self.check([4, 62], [(0, 254)])
        self.check([4, 1], [(0, 254)])
        self.check([4, 1, 254], [(0, 255)])

    def test_contents(self):
        self.check([6, 1], [(0, 255)])
        for begun in ([7, 1], [7, 2, 97], [9, 1, 7, 1]):
            self.check(begun, [(9, 10), (32, 36), (38, 126)])

    def test_keys(self):
        self.check([9, 2, 7, 1, 126, 1], [(7, 7)])
        self.check([9, 2, 7, 1, 126, 1, 7], [(2, 254)])
        self.check([9, 2, 5, 192, 255, 1], [(5, 7)])
        self.check([9, 2, 5, 192, 255, 1, 5], [(193, 254)])
        self.check([9, 2, 5, 192, 254, 1, 5], [(192, 254)])
        self.check([9, 2, 5, 192, 254, 1, 5, 192], [(255, 255)])
        self.check([9, 2, 4, 255, 1], [(5, 7)])
        self.check([9, 2, 4, 254, 1, 4], [(255, 255)])
        self.check([9, 2, 7, 2, 97, 36, 1, 7, 2], [(97, 126)])
        self.check([9, 2, 7, 2, 97, 36, 1, 7, 2, 97], [(38, 126)])
        self.check([9, 2, 7, 2, 97, 126, 1, 7, 2], [(98, 126)])
        self.check([9, 2, 7, 2, 36, 126, 1, 7, 2], [(38, 126)])
        self.check([9, 2, 5, 254] + [255] * 63 + [1], [(6, 7)])

    def test_levels(self):
        for head in ([8, 1], [9, 1, 5, 1], [10, 5]):
            self.check(head * 23, [(1, 10)])
            self.check(head * 24, [(1, 7)])
            self.check(head * 22 + [8, 2, 1], [(1, 10)])

    def test_schemas(self):
        schema = Schema(Shape.maps(Shape.integers(0, 5), ANY))
        self.check([9], [(0, 6)], schema)
        self.check([9, 3, 5], [(0, 3)], schema)
        schema = Schema(Shape.integers(300, 310))
        self.check([], [(5, 5)], schema)
        self.check([5, 193, 1], [(44, 54)], schema)
        schema = Schema(Shape.tagged(3, ANY) | Shape.tagged(300, ANY))
        self.check([10], [(3, 3), (193, 193)], schema)
        self.check([10, 193], [(1, 1)], schema)
        self.check([10, 193, 1], [(44, 44)], schema)
        schema = Schema(Shape.record({"b": NONE, "d": NONE}, optional={"a": NONE, "c": NONE}))
        self.check([9], [(2, 4)], schema)
        self.check([9, 2, 7, 1], [(98, 98)], schema)
        self.check([9, 3, 7, 1], [(97, 98)], schema)
        self.check([9, 3, 7, 1, 97, 1, 7, 1], [(98, 98)], schema)
        schema = Schema(Shape.just(False) | Shape.just(True) | Shape.integers())
        self.check([], [(2, 5)], schema)
        schema = Schema(oracle.padded(23, Shape.lists(Shape.lists(ANY))))
        self.check([10, 7] * 23 + [8], [(0, 0)], schema)

    def test_each_beginning_of_many_documents(self):
        for value, row in DOCUMENTS:
            for size in range(min(len(row), 12)):
                reader = fed(row[:size])
                alive = [byte for byte in range(256) if first_wrong([*row[:size], byte]) is None]
                self.assertEqual(span(*reader.allowed()), alive)
                self.assertEqual(taken_bytes(reader), alive)

    def test_as_few_ranges_as_possible(self):
        for chance, schema, rows in oracle.drawn_schemas(range(60), DEPTHS, 300):
            alive = oracle.beginnings(rows)
            for row in chance.sample(rows, min(6, len(rows))):
                for size in range(len(row)):
                    ranges = fed(row[:size], schema).allowed()
                    self.assertEqual(span(*ranges), sorted(alive[row[:size]]))
                    self.assertTrue(all(one[1] + 1 < two[0] for one, two in zip(ranges, ranges[1:])))


class Places(unittest.TestCase):
    def check(self, begun, expected, schema=None):
        found = fed(begun, schema).place()
        self.assertEqual(found, expected)
        self.assertEqual([type(step) for step in found], [type(step) for step in expected])
        self.assertIs(type(found), tuple)

    def test_lists(self):
        for begun, expected in [
            ([], ()), ([8], ()), ([8, 2], (0,)), ([8, 2, 5], (0,)), ([8, 2, 5, 1], (1,)), ([8, 2, 1, 8], (1,)),
            ([8, 2, 1, 8, 1], (1, 0)), ([8, 2, 8, 0], (1,)), ([8, 2, 8, 1, 1], (1,)), ([8, 2, 1, 1], ()), ([8, 0], ()),
            ([8, 192], ()), ([8, 192, 192], (0,)),
        ]:
            self.check(begun, expected)

    def test_maps(self):
        for begun, expected in [
            ([9], ()), ([9, 2], ()), ([9, 2, 5], ()), ([9, 2, 5, 192], ()), ([9, 2, 5, 1], (1,)), ([9, 2, 5, 1, 8], (1,)),
            ([9, 2, 5, 1, 8, 1], (1, 0)), ([9, 2, 5, 1, 1], ()), ([9, 2, 5, 1, 1, 7, 2, 97], ()),
            ([9, 2, 5, 1, 1, 7, 2, 97, 98], ("ab",)), ([9, 1, 6, 0], ((),)), ([9, 1, 6, 2, 0, 255], ((0, 255),)),
            ([9, 1, 4, 63, 63], (-193,)), ([9, 1, 7, 0, 9, 1], ("",)), ([9, 1, 7, 0, 9, 1, 5, 3, 10], ("", 3)),
        ]:
            self.check(begun, expected)

    def test_tags(self):
        for begun, expected in [
            ([10], ()), ([10, 192], ()), ([10, 5], (0,)), ([10, 5, 7], (0,)), ([10, 5, 10, 6], (0, 0)), ([10, 5, 1], ()),
            ([1, 10, 5], (0,)),
        ]:
            self.check(begun, expected)

    def test_deep(self):
        self.check([8, 2, 1] * 24, (1,) * 24)

    def test_by_schema(self):
        schema = Schema(Shape.record({"a": Shape.rows(NONE, Shape.tagged(300, NONE))}, optional={300: NONE}))
        for begun, expected in [
            ([9, 1], ()), ([9, 1, 7, 1], ()), ([9, 1, 7, 1, 97], ("a",)), ([9, 1, 7, 1, 97, 8, 2], ("a", 0)),
            ([9, 1, 7, 1, 97, 8, 2, 1, 10, 193, 1], ("a", 1)), ([9, 1, 7, 1, 97, 8, 2, 1, 10, 193, 1, 44], ("a", 1, 0)),
            ([9, 2, 5, 193, 1], ()), ([9, 2, 5, 193, 1, 44], (300,)),
        ]:
            self.check(begun, expected, schema)

    def test_the_place_leads_to_where_the_next_byte_is(self):
        value = [{-5: [(), {"k": Tag(5, ["ab"])}], "b": None, "cc": {(1,): 300}}, Tag(400, {})]
        document = Document.of(value)
        starts = {start: level for start, level, is_key, _, _ in document.events() if not is_key}
        for at in range(len(document)):
            place = fed(document.data[:at]).place()
            if at in starts:
                self.assertEqual(len(place), starts[at] - 1)
            part = value
            for step in place:
                part = part.content() if isinstance(part, Tag) else part[step]


class Debts(unittest.TestCase):
    def check(self, begun, expected, schema=None):
        found = fed(begun, schema).owed()
        self.assertEqual(found, expected)
        self.assertIs(type(found), int)

    def test_lists(self):
        for begun, expected in [
            ([8], 0), ([8, 3], 3), ([8, 3, 1], 2), ([8, 3, 5], 2), ([8, 3, 8], 2), ([8, 3, 8, 2], 4), ([8, 3, 8, 2, 1, 1], 2),
            ([8, 192], 192), ([8, 193], 256), ([8, 193, 1], 256), ([8, 193, 2], 512), ([8, 193, 2, 3], 515),
            ([8, 194], 65536), ([8, 254], 256 ** 62), ([8, 254] + [255] * 63, MOST),
        ]:
            self.check(begun, expected)

    def test_maps(self):
        for begun, expected in [
            ([9], 0), ([9, 2], 2), ([9, 2, 5], 1), ([9, 2, 5, 1], 1), ([9, 2, 5, 1, 8], 1), ([9, 2, 5, 1, 8, 3], 4),
            ([9, 2, 5, 1, 1], 1), ([9, 2, 5, 1, 1, 5, 2], 0), ([9, 2, 7], 1), ([9, 2, 7, 3], 4), ([9, 2, 7, 3, 97], 3),
            ([9, 2, 7, 192], 193), ([9, 192], 192), ([9, 2, 7, 1, 126, 1], 1), ([9, 2, 7, 1, 126, 1, 7], 2),
            ([9, 3, 7, 1, 126, 1, 7], 3), ([9, 2, 6, 1, 255, 1, 6], 2), ([9, 2, 6, 1, 254, 1, 6], 1),
            ([9, 2, 5, 192, 255, 1, 5], 0), ([9, 2, 5, 192, 255, 1, 5, 193], 0),
        ]:
            self.check(begun, expected)

    def test_contents(self):
        for kind in (6, 7):
            for begun, expected in [([], 0), ([3], 3), ([3, 97], 2), ([3, 97, 97], 1), ([3, 97, 97, 97], 0), ([192], 192),
                                    ([193], 256), ([193, 1, 44], 300)]:
                self.check([kind] + begun, expected)

    def test_what_adds_nothing(self):
        for begun in ([], [1], [5], [5, 200], [4], [4, 1], [10], [10, 200], [10, 5], [10, 5, 10], [9, 1, 5, 1], [9, 1, 5]):
            self.check(begun, 0)

    def test_sums(self):
        self.check([8, 2, 9, 3, 7, 2, 97, 97, 10, 5, 8, 4, 7, 5, 97], 1 + 2 + 3 + 4)

    def test_by_schema(self):
        lists = Schema(Shape.lists(Shape.lists(NONE, least=3, most=4), least=2))
        for begun, expected in [([8], 2), ([8, 2], 2), ([8, 5], 5), ([8, 2, 8], 1 + 3), ([8, 2, 8, 4], 1 + 4), ([8, 192], 192)]:
            self.check(begun, expected, lists)
        for shape, kind in ((Shape.texts, 7), (Shape.octets, 6)):
            self.check([kind], 190, Schema(shape(190, 300)))
            self.check([kind, 193], 256, Schema(shape(190, 300)))
            self.check([kind], 300, Schema(shape(300, 300)))
            self.check([kind, 193], 300, Schema(shape(300, 310)))
        self.check([8], 2, Schema(Shape.rows(NONE, NONE)))
        self.check([9], 2, Schema(Shape.record({1: NONE, 2: NONE}, optional={3: NONE})))
        self.check([9, 3], 3, Schema(Shape.record({1: NONE, 2: NONE}, optional={3: NONE})))
        self.check([9], 4, Schema(Shape.maps(ANY, NONE, least=4)))
        self.check([7], 3, Schema(Shape.just("abc")))
        self.check([9, 1, 7], 2, Schema(Shape.record({"ab": NONE})))
        self.check([9, 1, 7, 2, 97], 1, Schema(Shape.record({"ab": NONE})))
        self.check([9, 1, 7], 1, Schema(Shape.record({}, optional={"a": NONE, "ab": NONE})))
        self.check([9, 1, 5], 0, Schema(Shape.record({300: NONE})))
        self.check([9, 1, 7], 3, Schema(Shape.maps(Shape.texts(3), NONE)))
        self.check([9, 97, 7], 96 + 0, Schema(Shape.maps(Shape.texts(0, 1), NONE)))
        self.check([9, 97, 7, 0, 1, 7], 95 + 1, Schema(Shape.maps(Shape.texts(0, 1), NONE)))

    def test_against_all_documents(self):
        for chance, schema, rows in oracle.drawn_schemas(range(60), DEPTHS, 300):
            for row in chance.sample(rows, min(4, len(rows))):
                for size in range(1, len(row)):
                    debts = [oracle.debt(other, size) for other in rows if other[:size] == row[:size]]
                    self.assertEqual(fed(row[:size], schema).owed(), min(debts))


class Completions(unittest.TestCase):
    def completed(self, begun, schema=None):
        """The completion behind a row; it makes the row a whole document, and not a byte less."""
        reader = fed(begun, schema)
        many = len(reader.finished())
        row = reader.completion()
        self.assertIs(type(row), list)
        self.assertLessEqual(len(row), 8000)
        self.assertEqual((reader.position, len(reader.finished())), (len(begun), many))
        for at in range(len(row)):
            self.assertIs(reader.is_between, False)
            self.assertEqual(reader.feed([row[at]]), 1 if at == len(row) - 1 else 0)
        self.assertIs(reader.is_between, True)
        return row

    def test_each_beginning_of_many_documents(self):
        values = [value for value, row in DOCUMENTS if len(row) < 40] + VALUES
        for value in values + [nested(24, in_tag), {number: [number] for number in range(-3, 3)}]:
            row = Document.of(value).data
            for size in range(1, len(row)):
                self.assertGreater(len(self.completed(row[:size])), 0)

    def test_between_documents(self):
        for begun in ([], [1], STREAM):
            self.assertEqual(self.completed(begun), [])

    def test_behind_whole_documents(self):
        self.assertEqual(self.completed([1, 1, 7, 2, 97]), [9])
        self.assertEqual(self.completed([1, 8, 2, 1]), [1])

    def test_too_long(self):
        for begun, debt in [([8, 193, 1, 145], 401), ([7, 193, 1, 145], 401), ([9, 193, 1, 145], 401), ([8, 254], 256 ** 62),
                            ([8, 192, 201, 6, 192, 201], 401), ([6, 193, 1, 146, 5], 401)]:
            reader = fed(begun)
            with self.assertRaises(TooLong) as caught:
                reader.completion()
            self.assertEqual(caught.exception.debt, debt)
            self.assertEqual((reader.position, reader.owed()), (len(begun), debt))
        for begun in ([8, 193, 1, 144], [7, 193, 1, 144], [6, 193, 1, 145, 5], [8, 193, 1, 145, 5]):
            self.assertEqual(fed(begun).owed(), 400)
            self.completed(begun)

    def test_a_map_of_many_pairs(self):
        # The shortest keys take two or three bytes each.
        self.assertLess(len(self.completed([9, 193, 1, 144])), 1300)
        self.assertLess(len(self.completed([9, 60])), 200)

    def test_long_items_are_passed_over(self):
        long = Shape.lists(NONE, least=400) | Shape.texts(400) | Shape.octets(300)
        short = Shape.tagged(3, Shape.rows())
        schema = Schema(Shape.rows(*[long | short] * 40))
        self.assertEqual(self.completed([8, 40], schema), [10, 3, 8, 0] * 40)
        schema = Schema(Shape.record({"a": NONE}, optional={number: long if number < 20 else NONE for number in range(39)}))
        self.assertLess(len(self.completed([9, 15], schema)), 100)
        self.assertLess(len(self.completed([9, 15, 5], schema)), 100)

    def test_tags_with_long_contents_are_passed_over(self):
        choices = Shape.tagged(300, NONE)
        for number in range(3, 9):
            choices = choices | Shape.tagged(number, Shape.octets(390))
        schema = Schema(Shape.rows(*[choices] * 40))
        self.assertEqual(self.completed([8, 40], schema), [10, 193, 1, 44, 1] * 40)
        self.assertEqual(self.completed([8, 40, 10], schema)[:4], [193, 1, 44, 1])
        self.assertEqual(len(self.completed([8, 40, 10, 3], schema)), 4 + 390 + 39 * 5)

    def test_long_keys_are_passed_over(self):
        integers, octets, negative = Shape.integers(300, 900), Shape.octets(300), Shape.integers(-(10 ** 100), -1)
        for key, begun, most in [
            (octets | Shape.texts(), [9, 60], 260),
            (octets | Shape.texts(), [9, 60, 7], 260),
            (integers | Shape.octets(0, 0) | Shape.texts(400, 400), [9, 33], 200),
            (integers | Shape.octets(0, 0) | Shape.texts(400, 400), [9, 33, 5], 200),
            (negative | octets, [9, 60], 200),
            (negative | octets, [9, 60, 4], 300),
            (integers | octets | Shape.texts(0, 0), [9, 33], 200),
            (Shape.integers(-400, 400) | octets, [9, 65], 200),
            (Shape.integers(-70, 0), [9, 60], 200),
        ]:
            self.assertLessEqual(len(self.completed(begun, Schema(Shape.maps(key, NONE)))), most)

    def test_the_shortest_of_several_nests(self):
        rows, tags = Shape.rows(*[NONE] * 20), Shape.tagged(MOST, NONE)
        for longer in (Shape.maps(Shape.texts(), Shape.octets(30), least=1), Shape.maps(Shape.octets(30), NONE, least=1),
                       Shape.record({"k": Shape.texts(30)}), Shape.record({"k" * 30: NONE}), Shape.rows(NONE, Shape.texts(30)),
                       Shape.maps(Shape.integers(0, 9), Shape.lists(NONE, least=3), least=5),
                       Shape.maps(Shape.integers(-(256 ** 40), -(256 ** 39)), NONE, least=1)):
            for choice in (longer | tags, tags | longer):
                deeper = Shape.lists(Shape.tagged(1, choice | Shape.texts(60)), least=2)
                self.assertLess(len(self.completed([8, 2], Schema(deeper))), 110)
            self.assertEqual(self.completed([8, 1], Schema(Shape.lists(Shape.texts(23) | longer))), [7, 23] + [9] * 23)
        for shorter, row in [(Shape.maps(Shape.texts(), NONE, least=3), [9, 3, 7, 0, 1, 7, 1, 9, 1, 7, 1, 10, 1]),
                             (Shape.maps(Shape.integers(-300, -1), NONE, least=3), [9, 3, 4, 253, 1, 4, 254, 1, 4, 255, 1]),
                             (Shape.record({"k": NONE}, optional={"a": NONE}), [9, 1, 7, 1, 107, 1])]:
            for choice in (shorter | rows, shorter | Shape.texts(20), shorter | tags):
                self.assertEqual(self.completed([8, 1], Schema(Shape.lists(choice))), row)
            # By one byte shorter, and by one byte longer.
            same = Shape.texts(len(row) - 3)
            self.assertEqual(self.completed([8, 1], Schema(Shape.lists(shorter | same)))[0], 7)
            same = Shape.texts(len(row) - 1)
            self.assertEqual(self.completed([8, 1], Schema(Shape.lists(shorter | same))), row)

    def test_the_shortest_pairs_of_records(self):
        texts = {size: Shape.texts(size) for size in (9, 1, 5, 7, 3)}
        record = Schema(Shape.record({6: Shape.texts(4)}, optional=texts))
        self.assertEqual(self.completed([9, 3], record), [5, 1, 7, 1, 9, 5, 3, 7, 3, 9, 9, 9, 5, 6, 7, 4, 9, 9, 9, 9])
        self.assertEqual(self.completed([9, 2, 5], record), [1, 7, 1, 9, 5, 6, 7, 4, 9, 9, 9, 9])
        record = Schema(Shape.record({"m": Shape.texts(4)}, optional={"z" * size: NONE for size in (1, 2, 3)} | {"a": Shape.texts(2)}))
        self.assertEqual(self.completed([9, 2], record), [7, 1, 109, 7, 4, 9, 9, 9, 9, 7, 1, 122, 1])
        self.assertEqual(self.completed([9, 3], record), [7, 1, 109, 7, 4, 9, 9, 9, 9, 7, 1, 122, 1, 7, 2, 122, 122, 1])
        self.assertEqual(len(self.completed([9, 4], record)), 9 + 4 + 5 + 6)

    def test_names(self):
        deep = {"a": Shape.rows(Shape.named("b"), Shape.named("b")), "b": Shape.named("a") | Shape.texts(50)}
        schema = Schema(Shape.lists(Shape.named("b")), deep)
        self.assertEqual(self.completed([8, 2], schema), ([7, 50] + [9] * 50) * 2)
        schema = Schema.of(Shape.named("one"), one=Shape.tagged(1, Shape.named("one")) | Shape.lists(NONE, least=1))
        self.assertEqual(self.completed([10, 1], schema), [8, 1, 1])
        self.assertEqual(self.completed([10, 1] * 23, schema), [8, 1, 1])

    def test_against_all_documents(self):
        for chance, schema, rows in oracle.drawn_schemas(range(60), DEPTHS, 300):
            for row in chance.sample(rows, min(6, len(rows))):
                for size in range(1, len(row)):
                    least = min(len(other) for other in rows if other[:size] == row[:size])
                    found = size + len(self.completed(row[:size], schema))
                    # A shortest one, except where a key below 0 has begun, which has up to 64 bytes more.
                    self.assertLessEqual(found, least + 63 if row[size - 1] == 4 else least)


class Copies(unittest.TestCase):
    def same(self, one, two, finished=True):
        for question in ("allowed", "place", "owed", "completion", "state") + (("finished",) if finished else ()):
            self.assertEqual(getattr(one, question)(), getattr(two, question)())
        self.assertEqual((one.position, one.is_between), (two.position, two.is_between))

    def test_copies_at_each_position(self):
        for at in range(len(STREAM) + 1):
            reader = fed(STREAM[:at])
            twin = reader.copy()
            self.assertIs(type(twin), Reader)
            self.same(reader, twin)
            twin.feed(STREAM[at:])
            self.assertEqual(twin.finished(), VALUES)
            self.same(reader, fed(STREAM[:at]))
            reader.feed(reader.completion())
            reader.feed([3])
            self.assertEqual((reader.finished()[-1], twin.finished()), (True, VALUES))

    def test_resumed_at_each_position(self):
        for at in range(len(STREAM) + 1):
            reader = fed(STREAM[:at])
            state = reader.state()
            self.assertIs(type(state), tuple)
            self.assertEqual({type(number) for number in state} - {int}, set())
            twin = Reader.resumed(state)
            self.assertIs(type(twin), Reader)
            self.same(reader, twin, False)
            self.assertEqual(twin.finished(), [])
            many = len(reader.finished())
            self.assertEqual(twin.feed(STREAM[at:]), len(VALUES) - many)
            self.assertEqual(twin.finished(), VALUES[many:])
            self.assertEqual((twin.position, reader.position), (len(STREAM), at))
            self.same(reader, fed(STREAM[:at]))

    def test_by_schema(self):
        for chance, schema, rows in oracle.drawn_schemas(range(12), (0, 22), 100):
            stream = [byte for row in chance.choices(rows, k=3) for byte in row]
            whole = fed(stream, schema)
            for at in range(len(stream) + 1):
                reader = fed(stream[:at], schema)
                for twin, finished in [(reader.copy(), True), (Reader.resumed(reader.state(), schema=schema), False)]:
                    self.same(reader, twin, finished)
                    twin.feed(stream[at:])
                    self.assertEqual(twin.position, whole.position)
                    self.assertEqual(twin.finished(), whole.finished()[0 if finished else len(reader.finished()):])

    def test_a_schema_made_anew(self):
        def schema():
            return Schema(Shape.maps(Shape.integers(0, 5), Shape.named("a")), {"a": Shape.texts(1)})

        reader = fed([9, 1, 5, 1, 7, 1, 98, 9, 3, 5], schema())
        twin = Reader.resumed(state=reader.state(), schema=schema())
        self.assertEqual((twin.allowed(), twin.position, twin.finished()), ([(0, 3)], 10, []))
        self.assertEqual(reader.finished(), [{1: "b"}])
        with self.assertRaises(WrongByte) as caught:
            twin.feed([4])
        self.assertEqual(caught.exception.at, 10)

    def test_copies_of_copies_and_states_of_resumed_readers(self):
        reader = fed([1, 8, 2, 5, 200 - 10])
        twin = Reader.resumed(Reader.resumed(reader.copy().copy().state()).state())
        self.same(reader, twin, False)
        twin.feed([1, 2])
        self.assertEqual((twin.finished(), twin.position), ([[190, None], False], 7))
        self.assertEqual(Reader.resumed(twin.state()).finished(), [])
        self.assertEqual(Reader.resumed(Reader().state()).position, 0)

    def test_by_name_only(self):
        with self.assertRaises(TypeError):
            Reader.resumed((0,), None)

    def test_a_long_document_that_has_been_begun(self):
        reader = fed(Document.of([1] * 5000).data[:-1])
        twin = Reader.resumed(reader.state())
        self.same(reader, twin)
        twin.feed([7])
        self.assertEqual(twin.finished(), [[1] * 4999 + [7]])


if __name__ == "__main__":
    unittest.main()
