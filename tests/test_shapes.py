"""Shapes: which arguments make one, and which do not."""

import unittest

from test_values import BAD_THINGS, DOCUMENTS, in_tag, nested

from shortestbytes.counts import MOST
from shortestbytes.documents import Document
from shortestbytes.errors import Ambiguous, BadShape, BadValue, WrongByte
from shortestbytes.schemas import Schema
from shortestbytes.shapes import Shape
from shortestbytes.values import Tag

ANY = Shape.anything()
NONE = Shape.just(None)
NO_SHAPES = [None, True, 5, "a", "anything", (), [], {}, [NONE], {"a": NONE}, Tag(1, 1), WrongByte(1), Document.of(1),
             Schema(NONE)]
NO_INTEGERS = [True, False, "5", "", (), (5,), [], [5], {}, Tag(5, 5), NONE, Document.of(5), WrongByte(5)]


class Shapes(unittest.TestCase):
    def good(self, shape, values=(), others=()):
        self.assertIs(type(shape), Shape)
        schema = Schema(shape)
        for value in values:
            self.assertIs(schema.matches(value), True, value)
        for value in others:
            self.assertIs(schema.matches(value), False, value)

    def bad(self, method, *arguments, **named):
        with self.subTest(method=method, arguments=arguments, named=named):
            with self.assertRaises(BadShape) as caught:
                getattr(Shape, method)(*arguments, **named)
            self.assertEqual(caught.exception.word, method)

    def test_longest(self):
        self.assertIs(type(Shape.LONGEST), int)
        self.assertEqual(Shape.LONGEST, 400)

    def test_anything(self):
        self.good(Shape.anything(), [value for value, _ in DOCUMENTS], BAD_THINGS)

    def test_just(self):
        for value, _ in DOCUMENTS:
            self.good(Shape.just(value), [value])
        self.good(Shape.just(value=5), [5], [6, True, None])
        self.good(Shape.just(nested(24, in_tag)), [nested(24, in_tag)], [nested(23, in_tag)])
        self.good(Shape.just({1: [2], "a": ()}), [{"a": (), 1: [2]}], [{1: [2]}, {1: [2], "a": (), "b": 1}])

    def test_just_of_no_value(self):
        for thing in BAD_THINGS + [NONE, Document.of(1)]:
            for value, path in [(thing, ()), ([1, thing], (1,)), ({1: [thing], 0: 5}, (1, 0))]:
                with self.assertRaises(BadValue) as caught:
                    Shape.just(value)
                self.assertEqual(caught.exception.path, path)
                self.assertIs(type(caught.exception.path), tuple)
        with self.assertRaises(BadValue) as caught:
            Shape.just([nested(24, lambda inner: [inner])])
        self.assertEqual(caught.exception.path, (0,) * 24)

    def test_integers(self):
        self.good(Shape.integers(), [-1 - MOST, -1, 0, MOST], [None, True, "0"])
        self.good(Shape.integers(3), [3, MOST], [2, -1 - MOST])
        self.good(Shape.integers(low=3), [3, MOST], [2])
        self.good(Shape.integers(high=3), [3, -1 - MOST], [4])
        self.good(Shape.integers(None, 3), [3, -1 - MOST], [4])
        self.good(Shape.integers(high=5, low=3), [3, 5], [2, 6])
        self.good(Shape.integers(3, 3), [3], [2, 4])
        self.good(Shape.integers(-1 - MOST, MOST), [-1 - MOST, MOST])
        self.good(Shape.integers(MOST), [MOST], [MOST - 1])
        self.good(Shape.integers(high=-1 - MOST), [-1 - MOST], [-MOST])

    def test_integers_bad(self):
        for thing in NO_INTEGERS + [MOST + 1, -2 - MOST, 10 ** 399]:
            self.bad("integers", thing)
            self.bad("integers", high=thing)
            self.bad("integers", 0, thing)
            self.bad("integers", low=thing, high=5)
        self.bad("integers", 5, 4)
        self.bad("integers", high=-1, low=0)
        self.bad("integers", MOST, -MOST)

    def test_lengths(self):
        for method, sign in (("texts", "a"), ("octets", (1,))):
            make = getattr(Shape, method)
            self.good(make(), [sign * 0, sign * 500], [None, 5])
            self.good(make(2), [sign * 2, sign * 401], [sign])
            self.good(make(most=2), [sign * 0, sign * 2], [sign * 3])
            self.good(make(2, 3), [sign * 2, sign * 3], [sign, sign * 4])
            self.good(make(most=3, least=3), [sign * 3], [sign * 2])
            self.good(make(0, 0), [sign * 0], [sign])
            self.good(make(400, 400), [sign * 400], [sign * 399, sign * 401])
            self.good(make(400, None), [sign * 400, sign * 401], [sign * 399])

    def test_lengths_bad(self):
        key = Shape.integers()
        for method, first in (("texts", []), ("octets", []), ("lists", [ANY]), ("maps", [key, ANY])):
            for thing in NO_INTEGERS + [-1, 401, MOST, 10 ** 399]:
                self.bad(method, *first, least=thing)
                self.bad(method, *first, most=thing)
                self.bad(method, *first, least=0, most=thing)
                self.bad(method, *first, least=thing, most=400)
            self.bad(method, *first, least=None)
            self.bad(method, *first, least=5, most=4)
            self.bad(method, *first, least=1, most=0)
        self.bad("texts", 5, 4)
        self.bad("octets", None)

    def test_rows(self):
        self.good(Shape.rows(), [[]], [[1], None])
        self.good(Shape.rows(NONE, ANY), [[None, 1]], [[None], [1, None], [None, 1, 1]])
        self.good(Shape.rows(*[ANY] * 40), [list(range(40))], [list(range(39))])
        for thing in NO_SHAPES:
            self.bad("rows", thing)
            self.bad("rows", ANY, thing)
            self.bad("rows", thing, ANY)

    def test_lists(self):
        self.good(Shape.lists(NONE), [[], [None] * 9], [[1], None, {}])
        self.good(Shape.lists(item=NONE, least=1), [[None], [None] * 9], [[]])
        self.good(Shape.lists(NONE, most=1), [[], [None]], [[None] * 2])
        self.good(Shape.lists(NONE, most=2, least=2), [[None] * 2], [[None], [None] * 3])
        self.good(Shape.lists(NONE, least=400, most=400), [[None] * 400], [[None] * 399])
        for thing in NO_SHAPES:
            self.bad("lists", thing)
            self.bad("lists", thing, least=1, most=0)
        with self.assertRaises(TypeError):
            Shape.lists(ANY, 1)

    def test_maps(self):
        self.good(Shape.maps(ANY, NONE), [{}, {1: None, "a": None, (): None}], [{1: 1}, [], None])
        self.good(Shape.maps(key=Shape.texts(), content=ANY, least=1), [{"a": 1}], [{}, {1: 1}, {"a": 1, (97,): 1}])
        self.good(Shape.maps(Shape.integers(0, 3), ANY, most=1), [{}, {3: 1}], [{4: 1}, {0: 1, 1: 1}])
        self.good(Shape.maps(Shape.integers(0, 3) | Shape.octets(0, 1), ANY), [{0: 1, (5,): 1}], [{"": 1}, {(1, 2): 1}])
        self.good(Shape.maps(Shape.octets() | (Shape.texts() | Shape.integers()), ANY), [{1: 1, "": 1, (): 1}])
        for thing in NO_SHAPES:
            self.bad("maps", thing, ANY)
            self.bad("maps", ANY, thing)
        with self.assertRaises(TypeError):
            Shape.maps(ANY, ANY, 1)

    def test_no_key_shapes(self):
        for key in [
            NONE, Shape.just(1), Shape.just("a"), Shape.just(()), Shape.named("a"), Shape.lists(ANY), Shape.rows(),
            Shape.maps(ANY, ANY), Shape.record({}), Shape.fields(), Shape.tagged(1, ANY),
        ]:
            self.bad("maps", key, ANY)
            self.bad("maps", Shape.integers() | key, ANY)
            self.bad("maps", key | Shape.texts(), ANY)
        for key in [
            ANY | Shape.texts(), Shape.texts() | ANY, ANY | ANY, Shape.integers(0, 1) | Shape.integers(5, 6),
            Shape.integers(-5, -1) | Shape.integers(0, 5), Shape.texts(0, 1) | Shape.integers() | Shape.texts(2, 3),
            Shape.octets(1) | Shape.octets(0, 0),
        ]:
            self.bad("maps", key, ANY)

    def test_too_few_keys(self):
        for key, many in [
            (Shape.integers(0, 5), 6), (Shape.integers(-3, 0), 4), (Shape.integers(7, 7), 1), (Shape.texts(0, 0), 1),
            (Shape.texts(1, 1), 96), (Shape.texts(0, 1), 97), (Shape.octets(0, 1), 257), (Shape.octets(1, 1), 256),
            (Shape.octets(0, 0) | Shape.texts(0, 1) | Shape.integers(0, 1), 100), (Shape.integers(1, 399), 399),
            (Shape.octets(0, 1) | Shape.integers(1, 142), 399),
        ]:
            self.good(Shape.maps(key, ANY, least=many))
            self.good(Shape.maps(key, ANY, least=many, most=400))
            self.bad("maps", key, ANY, least=many + 1)
            self.bad("maps", key, ANY, least=many + 1, most=400)
        for key in (Shape.integers(1, 400), Shape.texts(2, 2), Shape.octets(400), Shape.texts(1), ANY, Shape.integers()):
            self.good(Shape.maps(key, ANY, least=400))

    def test_record(self):
        self.good(Shape.record({}), [{}], [{1: 1}])
        self.good(Shape.record({1: NONE}, optional=None), [{1: None}], [{}, {1: 1}])
        self.good(Shape.record({1: NONE}, optional={}), [{1: None}])
        self.good(Shape.record(required={}, optional={"a": NONE, (1,): ANY}), [{}, {"a": None}, {(1,): 5}], [{"a": 1}, {"b": 1}])
        self.good(Shape.record({at: ANY for at in range(40)}))
        self.good(Shape.record({}, optional={at: ANY for at in range(40)}))
        self.good(Shape.record({at: ANY for at in range(20)}, optional={at: ANY for at in range(20, 40)}))
        self.good(Shape.record({1: ANY}, optional={-1: ANY, "1": ANY, (1,): ANY}))
        with self.assertRaises(TypeError):
            Shape.record({}, {})

    def test_record_bad(self):
        bad_tables = [True, 5, "a", (), [], [(1, ANY)], ANY, Tag(1, 1)]
        bad_tables += [{1: thing} for thing in NO_SHAPES] + [{1: ANY, 2: None}]
        bad_tables += [{key: ANY} for key in (True, False, None, "%", (256,), (True,), MOST + 1, -2 - MOST, ((),))]
        for table in bad_tables:
            self.bad("record", table)
            self.bad("record", {}, optional=table)
            self.bad("record", {5: ANY}, optional=table)
        self.bad("record", None)
        for key in (1, "a", (), (1, 2)):
            self.bad("record", {key: ANY}, optional={key: ANY})
            self.bad("record", {9: ANY, key: ANY}, optional={key: ANY, 8: ANY})
        self.bad("record", {at: ANY for at in range(41)})
        self.bad("record", {}, optional={at: ANY for at in range(41)})
        self.bad("record", {at: ANY for at in range(20)}, optional={at: ANY for at in range(20, 41)})

    def test_fields(self):
        self.good(Shape.fields(), [{}], [{"a": 1}])
        self.good(Shape.fields(a=NONE, self=ANY), [{"a": None, "self": 1}], [{"a": None}, {"self": 1}])
        self.good(Shape.fields(required=NONE, optional=NONE, shapes=NONE), [dict.fromkeys(["required", "optional", "shapes"])])
        for thing in NO_SHAPES:
            self.bad("fields", a=thing)
            self.bad("fields", a=ANY, b=thing)

    def test_tagged(self):
        self.good(Shape.tagged(3, NONE), [Tag(3, None)], [Tag(3, 1), Tag(4, None), None, [None]])
        self.good(Shape.tagged(content=ANY, number=MOST), [Tag(MOST, [1])], [Tag(0, [1])])
        for thing in NO_INTEGERS + [-1, MOST + 1, None]:
            self.bad("tagged", thing, ANY)
        for thing in NO_SHAPES:
            self.bad("tagged", 3, thing)
            self.bad("tagged", -1, thing)

    def test_named(self):
        for name in ("a", "z", "abcdefgh", "cls", "root"):
            self.assertIs(type(Shape.named(name)), Shape)
            self.assertIs(type(Shape.named(name=name)), Shape)
        for thing in ["", "abcdefghi", "A", "aB", "a1", "a_b", "a b", " a", "a\n", "\u00e9", "\u00df", "\u0131", None, True, 5,
                      ("a",), ["a"], {"a": 1}, (), ANY]:
            self.bad("named", thing)

    def test_choice(self):
        self.good(NONE | Shape.integers(), [None, 5], ["a", True])
        self.good(NONE | Shape.integers() | (Shape.texts() | Shape.rows()), [None, 5, "a", []], [True, [1], ()])
        one, other = NONE, Shape.texts()
        self.good(one | other, [None, "a"])
        self.good(one, [None], ["a"])
        self.good(other, ["a"], [None])
        many = Shape.tagged(0, NONE)
        for number in range(1, 199):
            many = many | Shape.tagged(number, NONE)
        self.good(many, [Tag(0, None), Tag(198, None)], [Tag(199, None), Tag(5, 1)])
        for thing in NO_SHAPES:
            with self.assertRaises(TypeError):
                ANY | thing

    def test_choices_in_a_choice_count_as_one(self):
        left = (NONE | Shape.texts()) | Shape.integers()
        right = NONE | (Shape.texts() | Shape.integers())
        for shape in (left, right):
            self.good(shape, [None, "a", 1], [(), True])
            with self.assertRaises(Ambiguous):
                Schema(shape | Shape.texts())

    def test_arguments_are_copied(self):
        value = [[1], {"a": [2]}]
        just = Shape.just(value)
        value[0].append(5)
        value[1]["a"].clear()
        self.good(just, [[[1], {"a": [2]}]], [value])
        required, optional = {1: NONE}, {2: NONE}
        record = Shape.record(required, optional=optional)
        required[3] = NONE
        optional[1] = ANY
        required[1] = ANY
        del optional[2]
        self.good(record, [{1: None}, {1: None, 2: None}], [{1: 1}, {1: None, 3: None}])

    def test_arguments_are_not_changed(self):
        required, optional = {2: NONE, 1: ANY}, {4: NONE, 3: ANY}
        Schema(Shape.record(required, optional=optional))
        self.assertEqual(list(required.items()), [(2, NONE), (1, ANY)])
        self.assertEqual(list(optional.items()), [(4, NONE), (3, ANY)])

    def test_one_shape_in_many_places(self):
        small = Shape.integers(0, 3)
        shape = Shape.rows(small, Shape.lists(small), Shape.maps(small, small), small)
        self.good(shape, [[0, [1, 2], {3: 0}, 1]], [[4, [], {}, 1], [0, [4], {}, 1], [0, [], {4: 0}, 1], [0, [], {0: 4}, 1]])


if __name__ == "__main__":
    unittest.main()
