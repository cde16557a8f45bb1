"""Documents: made, told, joined and compared."""

import inspect
import itertools
import unittest
import unittest.mock

from test_values import BAD_THINGS, DOCUMENTS, WRAPS, empty_nest_at, hex_of, in_tag, nested

from shortestbytes.counts import MOST
from shortestbytes.documents import Document
from shortestbytes.errors import BadItem, BadNumber, BadValue, DuplicateKey, TooDeep, WrongByte
from shortestbytes.values import Tag, is_value

WORDS = [None, "none", "false", "true", "integer", "integer", "octets", "text", "list", "map", "tag"]


def in_list(inner):
    return [inner]


class Made(unittest.TestCase):
    def test_examples(self):
        self.assertEqual(Document.of({1: "a", -1: None}).data, (9, 2, 4, 255, 1, 5, 1, 7, 1, 97))
        self.assertEqual(Document.of([None, 5]).data, (8, 2, 1, 5, 5))
        self.assertEqual(Document.of(Tag(3, [])).data, (10, 3, 8, 0))
        self.assertIs(Document.of(-1) < Document.of(0), True)
        self.assertEqual(repr(Document.of(42)), "Document(05 2a)")

    def test_deepest(self):
        self.assertIs(type(Document.DEEPEST), int)
        self.assertEqual(Document.DEEPEST, 24)

    def test_each_kind(self):
        for value, row in DOCUMENTS:
            with self.subTest(value=value):
                document = Document.of(value)
                self.assertIs(type(document.data), tuple)
                self.assertEqual({type(byte) for byte in document.data}, {int})
                self.assertEqual(document.data, tuple(row))
                self.assertEqual(document.kind, WORDS[row[0]])

    def test_lengths_at_the_edges_of_their_codes(self):
        for size, code in [(0, [0]), (1, [1]), (191, [191]), (192, [192, 192]), (255, [192, 255]), (256, [193, 1, 0]),
                           (300, [193, 1, 44])]:
            self.assertEqual(list(Document.of((7,) * size)), [6] + code + [7] * size)
            self.assertEqual(list(Document.of("b" * size)), [7] + code + [98] * size)
            self.assertEqual(list(Document.of([True] * size)), [8] + code + [3] * size)
            self.assertEqual(list(Document.of({(): [None] * size})), [9, 1, 6, 0, 8] + code + [1] * size)
            keys = [key for number in range(size) for key in Document.of(number).data + (1,)]
            self.assertEqual(list(Document.of({number: None for number in range(size)})), [9] + code + keys)
            self.assertEqual(list(Document.of(Tag(size, False))), [10] + code + [2])

    def test_integers_at_the_edges_of_their_codes(self):
        for number, row in [
            (-(256 ** 63), [4, 1] + [0] * 63), (-(256 ** 63) + 1, [4, 1] + [0] * 62 + [1]), (-257, [4, 62, 254, 255]),
            (-256, [4, 63, 0]), (-193, [4, 63, 63]), (-192, [4, 64]), (-1, [4, 255]), (0, [5, 0]), (191, [5, 191]),
            (192, [5, 192, 192]), (256, [5, 193, 1, 0]), (MOST, [5, 254] + [255] * 63),
        ]:
            self.assertEqual(list(Document.of(number)), row)

    def test_keys_in_any_order(self):
        pairs = [(-300, 1), (-1, [2]), (0, "x"), (300, None), ((), 1), ((9,), 2), ((0, 0), 3), ("", 1), ("b", 2),
                 ("aa", 3)]
        expected = Document.of(dict(pairs))
        for other in itertools.islice(itertools.permutations(pairs), 0, None, 40001):
            self.assertEqual(Document.of(dict(other)).data, expected.data)
        keys = [worth for _, _, is_key, _, worth in expected.events() if is_key]
        self.assertEqual(keys, [key for key, _ in pairs])

    def test_nests_up_to_depth_24(self):
        for wrap, _ in WRAPS + [(in_tag, 0)]:
            for depth in (1, 2, 23, 24):
                value = nested(depth, wrap)
                self.assertEqual(Document.of(value).depth(), depth)
                self.assertEqual(Document.of(value).value(), value)
        self.assertEqual(Document.of(nested(24, in_list)).data, (8, 1) * 24 + (1,))
        self.assertEqual(Document.of(empty_nest_at(24)).data, (8, 1) * 23 + (8, 0))

    def test_by_name(self):
        self.assertEqual(Document.of(value=5).data, (5, 5))

    def test_later_changes_have_no_effect(self):
        held = [[1], {"a": [2]}]
        document = Document.of(held)
        data = document.data
        held[0].append(9)
        held[1]["a"].clear()
        held.clear()
        self.assertEqual(document.data, data)
        self.assertEqual(document.value(), [[1], {"a": [2]}])

    def test_arguments_are_not_changed(self):
        held = {"b": [1, {2: 3, 1: 4}], "a": Tag(3, [5])}
        Document.of(held)
        self.assertEqual(repr(held), "{'b': [1, {2: 3, 1: 4}], 'a': Tag(3, 08 01 05 05)}")


class BadValues(unittest.TestCase):
    def path(self, thing):
        self.assertIs(is_value(thing), False)
        with self.assertRaises(BadValue) as caught:
            Document.of(thing)
        self.assertIs(type(caught.exception.path), tuple)
        return caught.exception.path

    def test_example(self):
        self.assertEqual(self.path([1, {2: (256,)}]), (1, 2))

    def test_each_bad_thing(self):
        for thing in BAD_THINGS + [Document.of(1), Document.of([])]:
            with self.subTest(thing=thing):
                self.assertEqual(self.path(thing), ())
                self.assertEqual(self.path([0, {"k": thing}]), (1, "k"))
                self.assertEqual(self.path({(1, 2): [thing]}), ((1, 2), 0))

    def test_the_first_one_is_told(self):
        self.assertEqual(self.path([1, [2, "%"], 256 ** 63]), (1, 1))
        self.assertEqual(self.path([[[], {1: [Document.of(1)]}], (True,)]), (0, 1, 1, 0))
        self.assertEqual(self.path({"a": "%", 5: {3: (1, 256), -3: [None, "\r"]}}), (5, -3, 1))
        self.assertEqual(self.path([{True: "%"}, "%"]), (0,))
        self.assertEqual(self.path([0, Tag(1, nested(23, in_list)), "%"]), (1,) + (0,) * 23)

    def test_level_25(self):
        for wrap, step in WRAPS:
            self.assertEqual(self.path(nested(25, wrap)), (step,) * 24)
        self.assertEqual(self.path(nested(25, in_tag)), (0,) * 24)
        self.assertEqual(self.path([1, empty_nest_at(24)]), (1,) + (0,) * 23)
        self.assertEqual(self.path([empty_nest_at(24), "%"]), (0,) * 24)


class Told(unittest.TestCase):
    def test_value(self):
        for value, _ in DOCUMENTS:
            found = Document.of(value).value()
            with self.subTest(value=value):
                self.assertIs(type(found), type(value))
                self.assertEqual(found, value)

    def test_value_keeps_the_kinds(self):
        value = [None, False, True, 0, 1, (), (0,), "", "a", [], {}, {1: True, "": 1}, Tag(1, True), [[True], [1]]]
        self.assertEqual(repr(Document.of(value).value()), repr(value))

    def test_value_has_ascending_keys(self):
        value = Document.of([{"b": 1, 300: 2, "aa": 3, (): {1: 1, -1: 2, 0: 3, -300: 4}, 5: 4}]).value()[0]
        self.assertEqual(list(value), [5, 300, (), "b", "aa"])
        self.assertEqual(list(value[()]), [-300, -1, 0, 1])

    def test_value_is_new_each_time(self):
        document = Document.of([[1], {"a": [2]}, Tag(1, [3])])
        told = document.value()
        other = document.value()
        told[0].append(9)
        told[1]["a"].clear()
        told[1]["b"] = 1
        told[2].number = 7
        told.clear()
        for found in (other, document.value()):
            self.assertEqual(found, [[1], {"a": [2]}, Tag(1, [3])])

    def test_each_character(self):
        text = "".join(chr(code) for code in range(128) if is_value(chr(code)))
        self.assertEqual(len(text), 96)
        self.assertEqual(Document.of(text).value(), text)
        for sign in text:
            self.assertEqual(Document.of(sign).data, (7, 1, ord(sign)))
            self.assertEqual(Document.of({sign: sign}).value(), {sign: sign})

    def test_depth(self):
        for value, depth in [
            (None, 0), (5, 0), ("a", 0), ((1, 2), 0), ([], 1), ({}, 1), ([1], 1), ({1: 2}, 1), (Tag(1, 1), 1),
            ([[]], 2), ({1: []}, 2), (Tag(1, {}), 2), ([1, [2, [3]], [[], [[[]]], 5]], 5), ({"a": 1, "b": Tag(1, [])}, 3),
        ]:
            with self.subTest(value=value):
                self.assertEqual(Document.of(value).depth(), depth)

    def test_as_a_row(self):
        for value, row in DOCUMENTS:
            document = Document.of(value)
            self.assertEqual(len(document), len(row))
            self.assertEqual(list(document), row)
            self.assertEqual([byte for byte in document], row)
            self.assertEqual([document[at] for at in range(len(row))], row)
            self.assertEqual(tuple(document), document.data)

    def test_str_and_repr(self):
        for value, row in DOCUMENTS:
            self.assertEqual(str(Document.of(value)), hex_of(row))
            self.assertEqual(repr(Document.of(value)), f"Document({hex_of(row)})")
            self.assertEqual(f"{Document.of(value)}", hex_of(row))


class Compared(unittest.TestCase):
    def test_order_of_values(self):
        found = [Document.of(value) for value, _ in DOCUMENTS]
        for (one, left), (two, right) in itertools.product(enumerate(found), repeat=2):
            self.assertIs(left == right, one == two)
            self.assertIs(left != right, one != two)
            self.assertIs(left < right, one < two)
            self.assertIs(left <= right, one <= two)
            self.assertIs(left > right, one > two)
            self.assertIs(left >= right, one >= two)

    def test_one_place_differs(self):
        ascending = [
            [0, "a"], [0, "b"], [1, "a"], [0, "a", None],
        ], [
            {1: 1}, {1: 2}, {2: 0}, {(): 0}, {"b": 0}, {"aa": 0}, {1: 1, 2: 1}, {1: 1, 2: 2}, {1: 1, 3: 0}, {1: 2, 2: 0},
        ], [
            Tag(0, 5), Tag(1, 0), Tag(1, [9]), Tag(191, None), Tag(192, None), Tag(256, None),
        ], [
            [[], None], [[], [[1], {}]], [[], [[1], {5: 5}]], [[], [[2], {}]], [{}, []],
        ]
        for values in ascending:
            found = [Document.of(value) for value in values]
            for (one, left), (two, right) in itertools.product(enumerate(found), repeat=2):
                self.assertEqual([left < right, left == right, left >= right], [one < two, one == two, one >= two])

    def test_true_is_not_one(self):
        for one, other in [(True, 1), (False, 0), ([True], [1]), ({1: True}, {1: 1}), (Tag(1, True), Tag(1, 1))]:
            self.assertIs(Document.of(one) == Document.of(other), False)
            self.assertIs(Document.of(one) != Document.of(other), True)
            self.assertIs(Document.of(one) < Document.of(other), True)

    def test_equal_to_nothing_else(self):
        document = Document.of(5)
        for thing in (5, (5, 5), [5, 5], "05 05", None, True, Tag(5, 5), WrongByte(5), unittest.mock.ANY, [document]):
            self.assertIs(document == thing, False)
            self.assertIs(document != thing, True)

    def test_no_order_with_other_things(self):
        for thing in (5, (5, 5), [5, 5], Tag(5, 5)):
            for compare in (lambda one, other: one < other, lambda one, other: one <= other,
                            lambda one, other: one > other, lambda one, other: one >= other):
                with self.assertRaises(TypeError):
                    compare(Document.of(5), thing)


class Joined(unittest.TestCase):
    def setUp(self):
        self.documents = [Document.of(value) for value, _ in DOCUMENTS]

    def test_list_of(self):
        self.assertEqual(Document.list_of().data, (8, 0))
        self.assertEqual(Document.list_of(*self.documents), Document.of([value for value, _ in DOCUMENTS]))
        for value, _ in DOCUMENTS:
            self.assertEqual(Document.list_of(Document.of(value), Document.of(1)), Document.of([value, 1]))
        for many in (191, 192, 300):
            self.assertEqual(Document.list_of(*[Document.of("a")] * many), Document.of(["a"] * many))

    def test_kinds_of_what_is_joined(self):
        one = Document.of(1)
        self.assertEqual(Document.list_of(one).kind, "list")
        self.assertEqual(Document.map_of([(one, one)]).kind, "map")
        self.assertEqual(Document.tag_of(1, one).kind, "tag")
        for document in (Document.list_of(one), Document.map_of([(one, one)]), Document.tag_of(1, one)):
            self.assertIs(type(document), Document)
            self.assertIs(type(document.data), tuple)

    def test_list_of_too_deep(self):
        for depth in (23, 24):
            deep = Document.of(nested(depth, in_list))
            before = deep.data
            if depth < 24:
                self.assertEqual(Document.list_of(Document.of(1), deep).value(), [1, deep.value()])
            else:
                for documents in ([deep], [Document.of(1), deep], [deep, Document.of([])]):
                    with self.assertRaises(TooDeep) as caught:
                        Document.list_of(*documents)
                    self.assertEqual(caught.exception.reached, 25)
            self.assertEqual(deep.data, before)

    def test_map_of(self):
        self.assertEqual(Document.map_of([]).data, (9, 0))
        keys = [-300, -1, 0, 1, 192, 300, (), (5,), (0, 0), "", "b", "aa"]
        table = {key: value for key, (value, _) in zip(keys, DOCUMENTS[::3])}
        pairs = [(Document.of(key), Document.of(table[key])) for key in table]
        self.assertEqual(len(pairs), len(keys))
        for start in range(len(pairs)):
            turned = pairs[start:] + pairs[:start]
            before = list(turned)
            self.assertEqual(Document.map_of(turned), Document.of(table))
            self.assertEqual(Document.map_of(turned[::-1]), Document.of(table))
            self.assertEqual(turned, before)

    def test_map_of_bad_item(self):
        good = (Document.of(1), Document.of(1))
        for thing in (None, True, False, [], {}, Tag(1, 1), [1]):
            bad = (Document.of(thing), Document.of(1))
            for pairs, at in [([bad], 0), ([good, bad], 1), ([good, good, bad, bad], 2), ([bad, good, good], 0)]:
                with self.assertRaises(BadItem) as caught:
                    Document.map_of(pairs)
                self.assertEqual(caught.exception.at, at)

    def test_map_of_duplicate_key(self):
        def told(keys, deep=None):
            with self.assertRaises(DuplicateKey) as caught:
                Document.map_of([(Document.of(key), Document.of(deep)) for key in keys])
            return caught.exception.at

        self.assertEqual(told([1, 1]), 1)
        self.assertEqual(told([1, 2, "a", 2, 1]), 3)
        self.assertEqual(told(["a", (97,), "b", (), "", (97,), "a"]), 5)
        self.assertEqual(told([1, 1], nested(24, in_list)), 1)

    def test_map_of_too_deep(self):
        deep = Document.of(nested(24, in_list))
        for pairs in ([(Document.of(1), deep)], [(Document.of(2), Document.of(1)), (Document.of(1), deep)]):
            with self.assertRaises(TooDeep) as caught:
                Document.map_of(pairs)
            self.assertEqual(caught.exception.reached, 25)
        fine = Document.of(nested(23, in_list))
        self.assertEqual(Document.map_of([(Document.of(1), fine)]).value(), {1: fine.value()})
        with self.assertRaises(BadItem):
            Document.map_of([(Document.of(1), deep), (deep, deep), (Document.of(1), deep)])

    def test_tag_of(self):
        for value, _ in DOCUMENTS:
            for number in (0, 191, 192, 300, MOST):
                self.assertEqual(Document.tag_of(number, Document.of(value)), Document.of(Tag(number, value)))

    def test_tag_of_wrong(self):
        deep = Document.of(nested(24, in_list))
        for number in (-1, MOST + 1, True, None, "3", [3], Document.of(3)):
            for document in (Document.of(1), deep):
                with self.assertRaises(BadNumber) as caught:
                    Document.tag_of(number, document)
                self.assertIs(caught.exception.number, number)
        with self.assertRaises(TooDeep) as caught:
            Document.tag_of(3, deep)
        self.assertEqual(caught.exception.reached, 25)
        self.assertEqual(Document.tag_of(3, Document.of(nested(23, in_list))).depth(), 24)

    def test_by_name(self):
        one = Document.of(1)
        self.assertEqual(Document.map_of(pairs=[(one, one)]), Document.of({1: 1}))
        self.assertEqual(Document.tag_of(document=one, number=3), Document.of(Tag(3, 1)))

    def test_two_objects_share_nothing(self):
        pairs = [(Document.of(2), Document.of(1)), (Document.of(1), Document.of(1))]
        document = Document.map_of(pairs)
        pairs.clear()
        self.assertEqual(document, Document.of({1: 1, 2: 1}))


class Events(unittest.TestCase):
    value = {1: [None, True, -300], "b": {(0, 255): Tag(300, "a b")}, (): False}
    row = [9, 3, 5, 1, 8, 3, 1, 3, 4, 62, 254, 212, 6, 0, 2, 7, 1, 98, 9, 1, 6, 2, 0, 255, 10, 193, 1, 44, 7, 3, 97, 32, 98]
    events = [
        (0, 1, False, "map", 3),
        (2, 2, True, "integer", 1),
        (4, 2, False, "list", 3),
        (6, 3, False, "none", None),
        (7, 3, False, "true", None),
        (8, 3, False, "integer", -300),
        (12, 2, True, "octets", ()),
        (14, 2, False, "false", None),
        (15, 2, True, "text", "b"),
        (18, 2, False, "map", 1),
        (20, 3, True, "octets", (0, 255)),
        (24, 3, False, "tag", 300),
        (28, 4, False, "text", "a b"),
    ]
    listing = [
        "     0  09 03           map 3",
        "     2  05 01           . key integer 1",
        "     4  08 03           . list 3",
        "     6  01              . . none",
        "     7  03              . . true",
        "     8  04 3e fe d4     . . integer -300",
        "    12  06 00           . key octets 0",
        "    14  02              . false",
        "    15  07 01           . key text 1",
        "    18  09 01           . map 1",
        "    20  06 02           . . key octets 2",
        "    24  0a c1 01 2c     . . tag 300",
        "    28  07 03           . . . text 3",
    ]

    def test_examples(self):
        document = Document.of({1: "a"})
        self.assertEqual(list(document.events()), [
            (0, 1, False, "map", 1), (2, 2, True, "integer", 1), (4, 2, False, "text", "a"),
        ])
        self.assertEqual(document.listing(), [
            "     0  09 01           map 1", "     2  05 01           . key integer 1", "     4  07 01           . text 1",
        ])

    def test_events(self):
        document = Document.of(self.value)
        self.assertEqual(list(document), self.row)
        self.assertEqual(list(document.events()), self.events)
        self.assertEqual(repr(list(document.events())), repr(self.events))

    def test_anew_for_each_iteration(self):
        document = Document.of(self.value)
        one = document.events()
        self.assertTrue(inspect.isgenerator(one))
        self.assertEqual(next(one), self.events[0])
        self.assertEqual(list(document.events()), self.events)
        self.assertEqual(list(one), self.events[1:])
        self.assertEqual(list(one), [])

    def test_listing(self):
        document = Document.of(self.value)
        lines = document.listing()
        self.assertIs(type(lines), list)
        self.assertEqual(lines, self.listing)
        lines.clear()
        self.assertEqual(document.listing(), self.listing)

    def test_one_item(self):
        for value, row in DOCUMENTS:
            if not isinstance(value, (list, dict, Tag)):
                document = Document.of(value)
                worth = None if value is None or isinstance(value, bool) else value
                self.assertEqual(list(document.events()), [(0, 1, False, WORDS[row[0]], worth)])

    def test_long_heads_and_starts(self):
        self.assertEqual(Document.of([256 ** 4, -(256 ** 4), 256 ** 3 - 1]).listing(), [
            "     0  08 03           list 3",
            "     2  05 c4 01 00 00 00 00  . integer 4294967296",
            "     9  04 3c 00 00 00 00  . integer -4294967296",
            "    15  05 c2 ff ff ff  . integer 16777215",
        ])
        lines = Document.of(["a" * 300, (0,) * 9000, Tag(256 ** 4 - 1, {"k" * 200: None})]).listing()
        self.assertEqual(lines, [
            "     0  08 03           list 3",
            "     2  07 c1 01 2c     . text 300",
            "   306  06 c1 23 28     . octets 9000",
            "  9310  0a c3 ff ff ff ff  . tag 4294967295",
            "  9316  09 01           . . map 1",
            "  9318  07 c0 c8        . . . key text 200",
            "  9521  01              . . . none",
        ])

    def test_greatest_integer(self):
        lines = Document.of(MOST).listing()
        self.assertEqual(lines, [f"     0  05 fe {' '.join(['ff'] * 63)}  integer {MOST}"])

    def test_no_space_at_an_end(self):
        for value, _ in DOCUMENTS:
            for line in Document.of([value, {1: value}]).listing():
                self.assertEqual(line, line.rstrip())

    def test_levels(self):
        lines = Document.of(nested(24, in_list)).listing()
        self.assertEqual(lines[23], f"    46  08 01           {'. ' * 23}list 1")
        self.assertEqual(lines[24], f"    48  01              {'. ' * 24}none")


if __name__ == "__main__":
    unittest.main()
