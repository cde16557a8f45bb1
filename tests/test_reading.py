"""Reading data: read, first_wrong and is_document, which agree with each other and with Document.read."""

import unittest

import oracle
from test_document_read import NO_BYTES, plainly_told
from test_values import DOCUMENTS, in_tag, nested

from shortestbytes.counts import MOST
from shortestbytes.documents import Document
from shortestbytes.errors import Unfinished, WrongByte
from shortestbytes.reading import first_wrong, is_document, read
from shortestbytes.schemas import Schema
from shortestbytes.shapes import Shape
from shortestbytes.values import Tag

ANY = Shape.anything()
NONE = Shape.just(None)
# Documents in which each kind, each kind of key, and codes of several bytes occur.
ROWS = [
    [8, 2, 1, 5, 5],
    [9, 2, 4, 255, 1, 5, 1, 7, 1, 97],
    [9, 4, 4, 63, 63, 8, 0, 5, 192, 200, 9, 0, 6, 1, 255, 10, 3, 1, 7, 0, 6, 2, 0, 255],
    [8, 3, 2, 3, 4, 62, 254, 250],
    [10, 193, 1, 44, 8, 1, 7, 3, 9, 10, 126],
    [7, 192, 192] + [98] * 192,
]


def outcome(function, *arguments, **named):
    """What a function gives, or the word and the field of the error."""
    try:
        return function(*arguments, **named)
    except WrongByte as error:
        return ("wrong", error.at)
    except Unfinished as error:
        return ("unfinished", error.at)


class Same(unittest.TestCase):
    def told(self, data, **more):
        """What the three functions say of data: ("whole", value), ("wrong", index) or ("unfinished", index)."""
        found = outcome(lambda: ("whole", read(data, **more)))
        self.assertIs(is_document(data, **more), found[0] == "whole")
        wrong = first_wrong(data, **more)
        self.assertEqual(wrong, found[1] if found[0] == "wrong" else None)
        self.assertIs(type(wrong), int if found[0] == "wrong" else type(None))
        if found[0] == "unfinished":
            self.assertEqual(found[1], len(data))
        return found


class Reading(Same):
    def test_examples(self):
        self.assertEqual(read([8, 2, 1, 5, 5]), [None, 5])
        self.assertEqual(first_wrong([9, 2, 5, 192, 255, 1, 5, 192, 200, 1]), 7)

    def test_lists_tuples_and_documents(self):
        for value, row in DOCUMENTS:
            for data in (list(row), tuple(row), Document.of(value)):
                self.assertEqual(self.told(data), ("whole", value))
                self.assertIs(type(read(data)), type(value))

    def test_truth_values_are_no_integers(self):
        self.assertEqual(repr(read([8, 4, 2, 3, 5, 0, 5, 1])), "[False, True, 0, 1]")
        self.assertEqual(repr(read([9, 2, 5, 0, 2, 5, 1, 3])), "{0: False, 1: True}")

    def test_keys_ascend(self):
        value = {"b": {2: 1, -1: 2}, (): 1, -300: 2, 7: [{"aa": 1, "b": 2}]}
        found = read(Document.of(value))
        self.assertEqual(list(found), [-300, 7, (), "b"])
        self.assertEqual(list(found["b"]), [-1, 2])
        self.assertEqual(list(found[7][0]), ["b", "aa"])

    def test_told_anew(self):
        data = [8, 2, 9, 1, 5, 1, 8, 0, 10, 3, 8, 1, 1]
        found = read(data)
        self.assertEqual(found, [{1: []}, Tag(3, [None])])
        found[0][1].append(5)
        found[0][2] = 6
        found[1].content().append(7)
        found.clear()
        self.assertEqual(read(data), [{1: []}, Tag(3, [None])])
        self.assertEqual(data, [8, 2, 9, 1, 5, 1, 8, 0, 10, 3, 8, 1, 1])

    def test_each_beginning_is_unfinished(self):
        for _, row in DOCUMENTS:
            for size in range(len(row)):
                self.assertEqual(self.told(row[:size]), ("unfinished", size))
        for data in ([], ()):
            self.assertEqual(self.told(data), ("unfinished", 0))

    def test_the_first_entry_behind_is_wrong(self):
        for _, row in DOCUMENTS:
            for behind in ([0], [1, 1], [None], [255, 300], row):
                self.assertEqual(self.told(list(row) + list(behind)), ("wrong", len(row)))

    def test_entries_that_are_no_bytes(self):
        for row in ROWS[:5]:
            for entry in NO_BYTES:
                for at in range(len(row) + 1):
                    self.assertEqual(self.told(row[:at] + [entry] + row[at + 1:]), ("wrong", at))
                    self.assertEqual(self.told(tuple(row[:at] + [entry])), ("wrong", at))

    def test_one_byte_changed(self):
        for row in ROWS[:5]:
            self.assertEqual(self.told(row)[0], "whole")
            for at in range(len(row)):
                for byte in range(256) if row is ROWS[1] else [0, *range(1, 12), 37, 62, 63, 64, 97, 126, *range(190, 195), 200, 254, 255]:
                    changed = row[:at] + [byte] + row[at + 1:]
                    expected = plainly_told(changed)
                    found = self.told(changed)
                    if expected == tuple(changed):
                        self.assertEqual((found[0], Document.of(found[1]).data), ("whole", expected))
                    else:
                        self.assertEqual(found, expected)

    def test_levels(self):
        for head in ([8, 1], [9, 1, 5, 1], [10, 5]):
            for kind in (8, 9, 10):
                self.assertEqual(self.told(head * 23 + [kind])[0], "unfinished")
                self.assertEqual(self.told(head * 24 + [kind]), ("wrong", 24 * len(head)))
            self.assertEqual(self.told(head * 24 + [5, 1])[0], "whole")
            self.assertEqual(self.told(head * 23 + [8, 0])[0], "whole")
        self.assertEqual(read(Document.of(nested(24, in_tag))), nested(24, in_tag))

    def test_a_list_of_many_items(self):
        data = [8, 193, 5, 119] + [1] * 1399
        self.assertEqual(read(data), [None] * 1399)
        self.assertEqual(self.told(data[:-1]), ("unfinished", len(data) - 1))
        self.assertEqual(self.told(data + [1]), ("wrong", len(data)))

    def test_by_name_and_by_position(self):
        schema = Schema(Shape.integers(0, 9))
        self.assertEqual(read(data=[5, 5]), 5)
        self.assertEqual(read(data=[5, 5], schema=schema), 5)
        self.assertEqual(read([5, 5], schema=None), 5)
        self.assertEqual(first_wrong(data=[5, 10], schema=schema), 1)
        self.assertIs(first_wrong([5, 10], schema=None), None)
        self.assertIs(is_document(data=[5, 10], schema=schema), False)
        self.assertIs(is_document([5, 10], schema=None), True)
        for function in (read, first_wrong, is_document):
            with self.assertRaises(TypeError):
                function([5, 5], schema)


class BySchema(Same):
    def test_examples(self):
        schema = Schema(Shape.integers(300, 310))
        self.assertEqual(self.told([5, 193, 1, 55], schema=schema), ("wrong", 3))
        self.assertEqual(self.told([5, 193, 1, 54], schema=schema), ("whole", 310))
        self.assertEqual(self.told([5, 193, 1], schema=schema), ("unfinished", 3))

    def test_each_kind_of_shape(self):
        for shape, good, wrong in [
            (ANY, [1, [None]], []),
            (Shape.just([1, "a"]), [[1, "a"]], [([1, "b"], 6), ([True, "a"], 2), ([1], 1)]),
            (Shape.integers(-2, 5), [-2, 0, 5], [(-3, 1), (6, 1), (None, 0), (300, 1)]),
            (Shape.texts(1, 2), ["a", "ab"], [("", 1), ("abc", 1), ((97,), 0)]),
            (Shape.octets(1, 2), [(1,), (0, 255)], [((), 1), ("a", 0)]),
            (Shape.rows(NONE, Shape.integers(0, 5)), [[None, 5]], [([None], 1), ([5, None], 2), ([None, 6], 4)]),
            (Shape.lists(NONE, least=1, most=2), [[None], [None, None]], [([], 1), ([None] * 3, 1), ([1], 2)]),
            (Shape.maps(Shape.integers(0, 3), NONE, least=2), [{0: None, 3: None}], [({0: None}, 1), ({0: None, 4: None}, 6)]),
            (Shape.record({1: NONE}, optional={2: ANY}), [{1: None}, {1: None, 2: 5}], [({}, 1), ({2: 5}, 3), ({1: 5}, 4)]),
            (Shape.fields(a=NONE), [{"a": None}], [({"b": None}, 4), ({}, 1)]),
            (Shape.tagged(3, NONE), [Tag(3, None)], [(Tag(4, None), 1), (Tag(3, 1), 2), ([None], 0)]),
            (NONE | Shape.texts(), [None, "abc"], [(1, 0), ((), 0)]),
        ]:
            schema = Schema(shape)
            for value in good:
                row = Document.of(value).data
                self.assertEqual(self.told(row, schema=schema), ("whole", value))
                for size in range(len(row)):
                    self.assertEqual(self.told(row[:size], schema=schema), ("unfinished", size))
                self.assertEqual(self.told(row + (1,), schema=schema), ("wrong", len(row)))
            for value, at in wrong:
                self.assertEqual(self.told(Document.of(value), schema=schema), ("wrong", at))

    def test_names(self):
        schema = Schema.of(Shape.named("tree"), tree=NONE | Shape.lists(Shape.named("tree"), most=2))
        self.assertEqual(self.told([8, 2, 1, 8, 1, 8, 0], schema=schema), ("whole", [None, [[]]]))
        self.assertEqual(self.told([8, 2, 1, 8, 3], schema=schema), ("wrong", 4))
        self.assertEqual(self.told([8, 2, 5], schema=schema), ("wrong", 2))
        deepest = [8, 1] * 23 + [8, 0]
        self.assertEqual(self.told(deepest, schema=schema)[0], "whole")
        self.assertEqual(self.told([8, 1] * 24 + [8, 0], schema=schema), ("wrong", 48))

    def test_against_all_documents(self):
        compared = 0
        for chance, schema, rows in oracle.drawn_schemas(range(60), (0, 22), 200):
            compared += 1
            alive = oracle.beginnings(rows)
            for _ in range(30):
                row = list(chance.choice(rows))
                at = chance.randrange(len(row))
                row[at] = chance.choice([row[at], chance.randrange(256), row[at] + 1, row[at] - 1, *NO_BYTES[:6]])
                self.assertEqual(self.told(row, schema=schema)[:2], self.plainly(row, alive))
        self.assertGreater(compared, 30)

    def plainly(self, row, alive):
        """What is told by a search over the beginnings of all documents."""
        for size in range(len(row)):
            if type(row[size]) is not int or row[size] not in alive.get(tuple(row[:size]), ()):
                return ("wrong", size)
        return ("whole", read(row)) if not alive[tuple(row)] else ("unfinished", len(row))


class Long(unittest.TestCase):
    def test_numbers_that_are_never_reached(self):
        greatest = [254] + [255] * 63
        for kind in (6, 7, 8, 9):
            self.assertIs(first_wrong([kind] + greatest), None)
            self.assertIs(is_document([kind] + greatest), False)
        self.assertEqual(read([5] + greatest), MOST)


if __name__ == "__main__":
    unittest.main()
