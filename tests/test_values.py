"""Values and tags."""

import itertools
import unittest
import unittest.mock

from shortestbytes.counts import MOST
from shortestbytes.errors import BadNumber, BadValue, ShortestBytesError, WrongByte
from shortestbytes.values import Tag, is_value

# Values with their documents, in the ascending order of values.
DOCUMENTS = [
    (None, [1]),
    (False, [2]),
    (True, [3]),
    (-(256 ** 63), [4, 1] + [0] * 63),
    (-(256 ** 62) - 1, [4, 1, 254] + [255] * 62),
    (-(256 ** 62), [4, 2] + [0] * 62),
    (-257, [4, 62, 254, 255]),
    (-256, [4, 63, 0]),
    (-193, [4, 63, 63]),
    (-192, [4, 64]),
    (-2, [4, 254]),
    (-1, [4, 255]),
    (0, [5, 0]),
    (1, [5, 1]),
    (191, [5, 191]),
    (192, [5, 192, 192]),
    (255, [5, 192, 255]),
    (256, [5, 193, 1, 0]),
    (256 ** 63 - 1, [5, 254] + [255] * 63),
    ((), [6, 0]),
    ((0,), [6, 1, 0]),
    ((255,), [6, 1, 255]),
    ((0, 0), [6, 2, 0, 0]),
    ((7,) * 192, [6, 192, 192] + [7] * 192),
    ("", [7, 0]),
    ("\t", [7, 1, 9]),
    ("\n", [7, 1, 10]),
    (" ", [7, 1, 32]),
    ("$", [7, 1, 36]),
    ("&", [7, 1, 38]),
    ("~", [7, 1, 126]),
    ("aa", [7, 2, 97, 97]),
    ("a" * 300, [7, 193, 1, 44] + [97] * 300),
    ([], [8, 0]),
    ([None], [8, 1, 1]),
    ([True], [8, 1, 3]),
    ([1], [8, 1, 5, 1]),
    ([[]], [8, 1, 8, 0]),
    ([None, 5], [8, 2, 1, 5, 5]),
    ([None] * 256, [8, 193, 1, 0] + [1] * 256),
    ({}, [9, 0]),
    ({1: True}, [9, 1, 5, 1, 3]),
    ({1: 1}, [9, 1, 5, 1, 5, 1]),
    ({"a": None}, [9, 1, 7, 1, 97, 1]),
    ({1: "a", -1: None}, [9, 2, 4, 255, 1, 5, 1, 7, 1, 97]),
    ({"b": 1, "aa": 2, (9,): 3, 300: 4}, [9, 4, 5, 193, 1, 44, 5, 4, 6, 1, 9, 5, 3, 7, 1, 98, 5, 1, 7, 2, 97, 97, 5, 2]),
    (Tag(0, None), [10, 0, 1]),
    (Tag(3, []), [10, 3, 8, 0]),
    (Tag(300, 5), [10, 193, 1, 44, 5, 5]),
    (Tag(300, Tag(1, 1)), [10, 193, 1, 44, 10, 1, 5, 1]),
    (Tag(MOST, "a"), [10, 254] + [255] * 63 + [7, 1, 97]),
]

BAD_THINGS = [
    256 ** 63, 256 ** 63 + 1, -(256 ** 63) - 1, 10 ** 399, -(10 ** 399),
    "%", "a%b", "\r", "\x00", "\x0b", "\x1f", "\x7f", "\x80", "\u00e9", "a\u20ac", "\U0001f600",
    (256,), (-1,), (1, True), (False,), (None,), ("a",), ((),), ([],), (1, 2, 256),
    {True: 1}, {False: None}, {None: 1}, {"%": 1}, {(256,): 1}, {(True,): 1}, {((),): 1}, {256 ** 63: 1},
    {-(256 ** 63) - 1: 1}, {1: 1, None: 1}, {"a": 1, "\r": 1}, {"a": [], (1, None): []},
    WrongByte(1), ShortestBytesError("a"), BadValue(()),
]


def nested(depth, wrap, inner=None):
    """A thing of that many nests, each made by wrap, about the inner one."""
    thing = inner
    for _ in range(depth):
        thing = wrap(thing)
    return thing


def empty_nest_at(level):
    """A list whose innermost list, an empty one, has that level."""
    return nested(level - 1, lambda inner: [inner], [])


def in_tag(content):
    return Tag(7, content)


WRAPS = [
    (lambda inner: [inner], 0),
    (lambda inner: [1, inner], 1),
    (lambda inner: {"k": inner}, "k"),
    (lambda inner: {(): None, -300: inner}, -300),
]


def hex_of(row):
    return bytes(row).hex(" ")


class IsValue(unittest.TestCase):
    def test_each_kind(self):
        for value, _ in DOCUMENTS:
            with self.subTest(value=value):
                self.assertIs(is_value(value), True)

    def test_example(self):
        self.assertIs(is_value({True: 1}), False)

    def test_each_character(self):
        for code in range(300):
            fine = code in (9, 10) or 32 <= code <= 126 and code != 37
            self.assertIs(is_value(chr(code)), fine)
            self.assertIs(is_value("ab" + chr(code) + "c"), fine)
            self.assertIs(is_value({chr(code): 1}), fine)

    def test_no_value(self):
        for thing in BAD_THINGS:
            with self.subTest(thing=thing):
                self.assertIs(is_value(thing), False)
                self.assertIs(is_value([1, thing]), False)
                self.assertIs(is_value({1: thing}), False)
                self.assertIs(is_value([{1: [thing]}]), False)

    def test_keys(self):
        for key in (0, 1, -1, MOST, -1 - MOST, (), (0, 255), "", "a b"):
            self.assertIs(is_value({key: key}), True)

    def test_levels(self):
        for wrap, _ in WRAPS + [(in_tag, 0)]:
            self.assertIs(is_value(nested(24, wrap)), True)
            if wrap is not in_tag:
                self.assertIs(is_value(nested(25, wrap)), False)
                self.assertIs(is_value(nested(30, wrap)), False)

    def test_empty_nest_at_level_25(self):
        for empty in ([], {}, Tag(1, 1)):
            self.assertIs(is_value(nested(23, lambda inner: [inner], empty)), True)
            self.assertIs(is_value(nested(24, lambda inner: [inner], empty)), False)

    def test_levels_count_tags(self):
        deep = nested(24, lambda inner: [inner], 5)
        self.assertIs(is_value(deep), True)
        self.assertIs(is_value(Tag(1, deep)), False)
        self.assertIs(is_value(Tag(1, deep[0])), True)
        self.assertIs(is_value([Tag(1, deep[0])]), False)
        self.assertIs(is_value(nested(25, in_tag)), False)
        self.assertIs(is_value({1: Tag(1, empty_nest_at(22))}), True)
        self.assertIs(is_value({1: Tag(1, empty_nest_at(23))}), False)

    def test_wide_levels(self):
        self.assertIs(is_value([[]] * 100), True)
        self.assertIs(is_value([nested(23, lambda inner: [inner], 1)] * 50), True)

    def test_by_name(self):
        self.assertIs(is_value(value=5), True)

    def test_stays_as_it_was(self):
        thing = {2: [1], 1: {"b": (1,), "a": [None]}}
        is_value(thing)
        self.assertEqual(repr(thing), "{2: [1], 1: {'b': (1,), 'a': [None]}}")


class FirstBadPart(unittest.TestCase):
    def path(self, thing):
        with self.assertRaises(BadValue) as caught:
            Tag(1, thing)
        self.assertIs(type(caught.exception.path), tuple)
        return caught.exception.path

    def test_bad_itself(self):
        for thing in BAD_THINGS:
            with self.subTest(thing=thing):
                self.assertEqual(self.path(thing), ())

    def test_path_to_the_part(self):
        for thing in BAD_THINGS:
            with self.subTest(thing=thing):
                self.assertEqual(self.path([1, {2: thing}]), (1, 2))
                self.assertEqual(self.path({"a": {(1, 2): [0, [thing]]}}), ("a", (1, 2), 1, 0))

    def test_example_of_documents(self):
        self.assertEqual(self.path([1, {2: (256,)}]), (1, 2))

    def test_list_by_ascending_index(self):
        self.assertEqual(self.path([1, [2, "%"], 256 ** 63]), (1, 1))
        self.assertEqual(self.path(["%", [WrongByte(1)]]), (0,))
        self.assertEqual(self.path([[[]], [[], {1: ["%"]}], "%"]), (1, 1, 1, 0))

    def test_dict_by_ascending_key(self):
        keys = [-300, -193, -192, -1, 0, 2, 10, 191, 192, 256, (), (9,), (0, 0), "", "b", "aa"]
        for first, second in itertools.combinations(keys, 2):
            with self.subTest(first=first, second=second):
                self.assertEqual(self.path({second: "%", first: ["%"]}), (first, 0))
                self.assertEqual(self.path({first: "%", second: ["%"]}), (first,))
                self.assertEqual(self.path({second: "%", first: 1}), (second,))

    def test_dict_with_a_wrong_key_is_bad_itself(self):
        self.assertEqual(self.path({1: "%", True: 2, "%": 5}), ())
        self.assertEqual(self.path([{0: ["%"], None: 1}]), (0,))
        self.assertEqual(self.path([{"a": {"b": 1, (1, 256): 1}, "b": "%"}]), (0, "a"))

    def test_a_wrong_key_elsewhere_comes_in_its_turn(self):
        self.assertEqual(self.path({1: {True: 1}, 0: ["%"]}), (0, 0))

    def test_level_25(self):
        for wrap, step in WRAPS:
            for depth in range(25, 30):
                self.assertEqual(self.path(nested(depth, wrap)), (step,) * 24)

    def test_level_25_is_bad_whatever_it_contains(self):
        for inner in ([], ["%"], {}, {True: 1}, {1: "%"}, Tag(1, 1)):
            with self.subTest(inner=inner):
                self.assertEqual(self.path(nested(24, lambda inner: [inner], inner)), (0,) * 24)

    def test_leaf_at_level_25(self):
        Tag(1, nested(24, lambda inner: [inner], 5))
        self.assertEqual(self.path(nested(24, lambda inner: [inner], "%")), (0,) * 24)

    def test_level_25_in_tags(self):
        self.assertEqual(self.path(Tag(1, nested(24, lambda inner: [inner]))), (0,) * 24)
        self.assertEqual(self.path({"k": Tag(1, [1, empty_nest_at(22)])}), ("k", 0, 1) + (0,) * 21)
        self.assertEqual(self.path(nested(25, in_tag)), (0,) * 24)

    def test_level_25_and_another_bad_part(self):
        self.assertEqual(self.path([empty_nest_at(24), "%"]), (0,) * 24)
        self.assertEqual(self.path(["%", empty_nest_at(24)]), (0,))


class Tags(unittest.TestCase):
    def test_example(self):
        tag = Tag(3, [1])
        self.assertEqual([tag.number, tag.content()], [3, [1]])

    def test_by_name(self):
        tag = Tag(content="a", number=5)
        self.assertEqual([tag.number, tag.content()], [5, "a"])

    def test_numbers(self):
        for number in (0, 1, 191, 192, 300, MOST):
            tag = Tag(number, None)
            self.assertIs(type(tag.number), int)
            self.assertEqual(tag.number, number)

    def test_bad_number(self):
        for number in [-1, MOST + 1, 10 ** 399, True, False, None, "3", "", (), (3,), [], [3], {}, Tag(3, 3)]:
            with self.subTest(number=number), self.assertRaises(BadNumber) as caught:
                Tag(number, 1)
            self.assertIs(caught.exception.number, number)

    def test_bad_number_before_bad_value(self):
        for content in BAD_THINGS:
            for number in (-1, True, None):
                with self.subTest(content=content), self.assertRaises(BadNumber):
                    Tag(number, content)

    def test_content_of_each_kind(self):
        for value, _ in DOCUMENTS:
            content = Tag(3, value).content()
            with self.subTest(value=value):
                self.assertIs(type(content), type(value))
                self.assertEqual(content, value)

    def test_content_of_depth_24(self):
        for wrap, _ in WRAPS + [(in_tag, 0)]:
            deep = nested(24, wrap)
            self.assertEqual(Tag(1, deep).content(), deep)
        self.assertIs(is_value(Tag(1, nested(24, in_tag))), False)

    def test_content_of_wide_values(self):
        wide = {key: [key, {"a": (1, 2)}] for key in range(2000)}
        self.assertEqual(Tag(1, wide).content(), wide)

    def test_content_has_ascending_keys(self):
        tag = Tag(1, [{"b": 1, 300: 2, "aa": 3, (): {1: 1, -1: 2, 0: 3, -2: 4}, 5: 4}])
        content = tag.content()[0]
        self.assertEqual(list(content), [5, 300, (), "b", "aa"])
        self.assertEqual(list(content[()]), [-2, -1, 0, 1])

    def test_arguments_are_copied(self):
        inner = Tag(5, [1])
        held = [[1], {"a": [2]}, inner]
        tag = Tag(3, held)
        same = Tag(3, [[1], {"a": [2]}, Tag(5, [1])])
        held[0].append(9)
        held[1]["a"][0] = 8
        held[1]["b"] = 7
        inner.number = 6
        held.append(None)
        self.assertEqual(tag.content(), [[1], {"a": [2]}, Tag(5, [1])])
        self.assertEqual(tag, same)
        self.assertEqual(repr(tag), repr(same))

    def test_arguments_are_not_changed(self):
        held = [{2: [1], 1: Tag(3, [2])}]
        Tag(3, held).content()
        self.assertEqual(repr(held), "[{2: [1], 1: Tag(3, 08 01 05 02)}]")

    def test_content_is_new_each_time(self):
        tag = Tag(3, [[1], {"a": [2]}, Tag(5, [1])])
        told = tag.content()
        other = tag.content()
        for step in range(3):
            self.assertIsNot(told[step], other[step])
        self.assertIsNot(told[1]["a"], other[1]["a"])
        told[0].append(9)
        told[1]["a"].clear()
        told[1]["c"] = 1
        told[2].number = 6
        told.clear()
        self.assertEqual(tag.content(), [[1], {"a": [2]}, Tag(5, [1])])
        self.assertEqual(other, [[1], {"a": [2]}, Tag(5, [1])])
        self.assertEqual(tag, Tag(3, other))

    def test_equal(self):
        for value, _ in DOCUMENTS:
            self.assertIs(Tag(3, value) == Tag(3, value), True)
            self.assertIs(Tag(3, value) != Tag(3, value), False)
            self.assertIs(Tag(3, value) == Tag(4, value), False)
            self.assertIs(Tag(3, value) != Tag(4, value), True)
        self.assertEqual(Tag(1, {1: 2, 3: 4}), Tag(1, {3: 4, 1: 2}))

    def test_true_is_not_one(self):
        for one, other in [
            (True, 1), (False, 0), ([True], [1]), ({1: False}, {1: 0}), (Tag(2, True), Tag(2, 1)),
            ([[{"a": [True]}]], [[{"a": [1]}]]),
        ]:
            self.assertIs(Tag(1, one) == Tag(1, other), False)
            self.assertIs(Tag(1, one) != Tag(1, other), True)
            self.assertIs(Tag(1, one) < Tag(1, other), True)
            self.assertIs(Tag(1, other) < Tag(1, one), False)

    def test_equal_to_nothing_else(self):
        tag = Tag(3, [1])
        for thing in (3, [1], (3, [1]), [3, [1]], {3: [1]}, None, True, "Tag(3, 08 01 05 01)", (10, 3, 8, 1, 5, 1),
                      WrongByte(3), unittest.mock.ANY):
            self.assertIs(tag == thing, False)
            self.assertIs(tag != thing, True)

    def test_order_of_contents(self):
        for (one, (left, _)), (two, (right, _)) in itertools.product(enumerate(DOCUMENTS), repeat=2):
            self.assertIs(Tag(5, left) < Tag(5, right), one < two)
            self.assertIs(Tag(5, left) == Tag(5, right), one == two)

    def test_order_by_number_first(self):
        numbers = [0, 1, 191, 192, 255, 256, 65535, 65536, MOST]
        for one, two in itertools.product(numbers, repeat=2):
            self.assertIs(Tag(one, 5) < Tag(two, 5), one < two)
            if one != two:
                self.assertIs(Tag(one, [9]) < Tag(two, None), one < two)

    def test_order_of_maps(self):
        maps = [{1: 1}, {2: 0}, {1: 1, 2: 2}, {1: 1, 3: 0}, {1: 2, 2: 0}, {0: 0, 1: 0, 2: 0}]
        for one, two in itertools.product(range(len(maps)), repeat=2):
            self.assertIs(Tag(1, maps[one]) < Tag(1, maps[two]), one < two)

    def test_no_order_with_other_things(self):
        for thing in (1, None, [1], "a"):
            with self.assertRaises(TypeError):
                Tag(1, 1) < thing

    def test_repr(self):
        self.assertEqual(repr(Tag(3, [])), "Tag(3, 08 00)")
        self.assertEqual(repr(Tag(MOST, -1)), f"Tag({MOST}, 04 ff)")
        self.assertEqual(repr([Tag(0, Tag(300, "a"))]), "[Tag(0, 0a c1 01 2c 07 01 61)]")

    def test_repr_shows_the_document(self):
        for value, row in DOCUMENTS:
            with self.subTest(value=value):
                self.assertEqual(repr(Tag(192, value)), f"Tag(192, {hex_of(row)})")

    def test_documents_ascend(self):
        rows = [row for _, row in DOCUMENTS]
        self.assertEqual(rows, sorted(rows))


if __name__ == "__main__":
    unittest.main()
