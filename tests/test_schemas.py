"""Schemas: which are refused, what matches, and the least depths."""

import unittest

from test_values import BAD_THINGS, DOCUMENTS, nested

from shortestbytes.documents import Document
from shortestbytes.errors import Ambiguous, Barren, Circular, UnknownName
from shortestbytes.schemas import Schema
from shortestbytes.shapes import Shape
from shortestbytes.values import Tag

ANY = Shape.anything()
NONE = Shape.just(None)
INTEGERS = Shape.integers()
TEXTS = Shape.texts()


def named(name):
    return Shape.named(name)


def tagged(depth, shape):
    return nested(depth, lambda inner: Shape.tagged(1, inner), shape)


class Refused(unittest.TestCase):
    def refused(self, kind, name, root, **table):
        for make in (lambda: Schema(root, table), lambda: Schema(named=table, root=root),
                     lambda: Schema(root, dict(sorted(table.items(), reverse=True))), lambda: Schema.of(root, **table)):
            with self.assertRaises(kind) as caught:
                make()
            self.assertEqual(caught.exception.name, name)

    def test_examples(self):
        self.refused(Ambiguous, None, Shape.integers(0, 3) | Shape.integers(7, 9))
        self.refused(Barren, None, named("tree"), tree=Shape.lists(named("tree"), least=1))

    def test_unknown_name(self):
        self.refused(UnknownName, "a", named("a"))
        self.refused(UnknownName, "a", NONE, b=named("a"))
        self.refused(UnknownName, "c", named("z"), b=named("x"), a=Shape.lists(named("c")))
        self.refused(UnknownName, "ab", named("b"), a=named("abc"), d=named("ab"))
        for shape in [
            named("x") | NONE, NONE | TEXTS | named("x"), Shape.rows(NONE, named("x")), Shape.lists(named("x"), most=0),
            Shape.maps(ANY, named("x")), Shape.record({1: NONE, 2: named("x")}), Shape.record({}, optional={1: named("x")}),
            Shape.fields(a=named("x")), Shape.tagged(1, named("x")), tagged(20, Shape.rows(Shape.lists(named("x")))),
        ]:
            self.refused(UnknownName, "x", shape)
            self.refused(UnknownName, "x", NONE, y=shape)

    def test_circular(self):
        self.refused(Circular, "a", named("a"), a=named("a"))
        self.refused(Circular, "a", NONE, a=named("a"))
        self.refused(Circular, "b", NONE, a=named("b"), b=named("c"), c=NONE | named("b"))
        self.refused(Circular, "a", NONE, b=named("a"), a=TEXTS | named("b"))
        self.refused(Circular, "b", NONE, c=TEXTS | (named("d") | NONE), d=INTEGERS | named("b"), b=named("c"))
        self.refused(Circular, "x", named("a"), a=named("b"), b=named("x"), x=named("x") | NONE)

    def test_not_circular(self):
        Schema.of(named("a"), a=NONE | Shape.lists(named("a")))
        Schema.of(named("a"), a=named("b"), b=NONE | Shape.tagged(1, named("a")))
        Schema.of(named("a"), a=named("b"), b=named("c"), c=named("d"), d=NONE)
        Schema.of(named("a") | named("b"), a=NONE, b=TEXTS)

    def test_ambiguous_words(self):
        kinds = [
            [NONE], [Shape.just(False)], [Shape.just(True)],
            [INTEGERS, Shape.integers(0, 3), Shape.integers(-9, -5), Shape.just(7), Shape.just(-1)],
            [Shape.octets(), Shape.octets(1, 1), Shape.just((1, 2))],
            [TEXTS, Shape.texts(5), Shape.just("abc")],
            [Shape.lists(NONE), Shape.rows(), Shape.rows(NONE, NONE), Shape.just([]), Shape.just([1, 2])],
            [Shape.maps(ANY, NONE), Shape.record({}), Shape.fields(a=NONE), Shape.just({1: 2})],
            [Shape.tagged(3, NONE), Shape.tagged(3, TEXTS), Shape.just(Tag(3, 5))],
            [Shape.tagged(300, NONE), Shape.just(Tag(300, 5))],
        ]
        for one, left in enumerate(kinds):
            for two, right in enumerate(kinds):
                for shape in left:
                    for other in right:
                        if one == two:
                            self.refused(Ambiguous, None, shape | other)
                        else:
                            self.assertEqual(Schema(shape | other).names(), [])

    def test_anything_begins_like_all(self):
        for shape in (NONE, Shape.just(True), INTEGERS, TEXTS, Shape.octets(), Shape.rows(), Shape.record({}),
                      Shape.tagged(5, NONE), Shape.just(Tag(0, 0)), ANY):
            self.refused(Ambiguous, None, ANY | shape)
            self.refused(Ambiguous, None, shape | ANY)

    def test_ambiguous_at_any_depth(self):
        bad = TEXTS | Shape.texts(1)
        for shape in [
            Shape.rows(NONE, bad), Shape.lists(bad, most=0), Shape.maps(ANY, bad), Shape.record({1: NONE, 2: bad}),
            Shape.record({}, optional={1: bad}), Shape.fields(a=bad), Shape.tagged(1, bad), NONE | Shape.lists(bad),
            tagged(20, Shape.rows(Shape.lists(bad))), Shape.lists(NONE | bad), INTEGERS | Shape.tagged(1, NONE | Shape.rows(bad)),
        ]:
            self.refused(Ambiguous, None, shape)
            self.refused(Ambiguous, "b", NONE, a=named("b"), b=shape, c=shape)
            self.refused(Ambiguous, "b", Shape.lists(named("a")), a=Shape.rows(named("b")), b=shape)

    def test_names_stand_for_their_alternatives(self):
        self.refused(Ambiguous, None, named("a") | TEXTS, a=NONE | Shape.texts(5))
        self.refused(Ambiguous, None, named("a") | named("b"), a=NONE, b=named("c"), c=INTEGERS | NONE)
        self.refused(Ambiguous, "b", NONE, a=Shape.rows(named("b")), b=TEXTS | named("c"), c=named("d"), d=Shape.just(""))
        self.refused(Ambiguous, None, named("a") | NONE, a=TEXTS | TEXTS)
        self.refused(Ambiguous, None, named("a") | named("a"), a=TEXTS)
        # A name alone is not a choice of the shape that mentions it.
        self.refused(Ambiguous, "a", named("a"), a=TEXTS | TEXTS)
        self.refused(Ambiguous, "a", Shape.lists(named("a")), a=TEXTS | TEXTS)
        Schema.of(named("a") | named("b"), a=TEXTS | NONE, b=INTEGERS | Shape.lists(named("a") | named("b")))

    def test_ambiguity_does_not_depend_on_matches(self):
        deep = tagged(23, NONE)
        self.refused(Ambiguous, None, Shape.rows(deep) | Shape.rows(tagged(25, NONE)))
        self.refused(Ambiguous, None, Shape.lists(NONE, most=0) | Shape.lists(NONE, least=1))

    def test_barren(self):
        self.refused(Barren, None, named("a"), a=Shape.tagged(1, named("a")))
        self.refused(Barren, "a", NONE, a=Shape.rows(named("a")))
        self.refused(Barren, "b", NONE, c=Shape.rows(named("b")), b=Shape.record({1: named("c")}), a=Shape.lists(named("b")))
        self.refused(Barren, None, Shape.maps(ANY, named("b"), least=1), b=Shape.lists(named("b"), least=1))
        self.refused(Barren, None, tagged(25, NONE))
        self.refused(Barren, None, tagged(24, Shape.rows()))
        self.refused(Barren, "b", NONE, a=tagged(24, NONE), b=tagged(12, named("c")), c=tagged(13, NONE))
        self.refused(Barren, None, Shape.lists(tagged(24, NONE), least=1))

    def test_not_barren(self):
        Schema(tagged(24, NONE))
        Schema(tagged(23, Shape.rows()))
        Schema(Shape.lists(tagged(24, NONE)))
        Schema(Shape.lists(tagged(29, NONE)))
        Schema(NONE | tagged(25, NONE))
        Schema.of(Shape.record({}, optional={1: tagged(26, NONE)}))
        Schema.of(Shape.lists(named("a"), least=1), a=NONE | Shape.lists(named("a"), least=1))

    def test_the_order_of_the_cases(self):
        bad = TEXTS | TEXTS
        self.refused(UnknownName, "y", named("y") | bad, a=named("a"), b=Shape.rows(named("b")), c=named("z"))
        self.refused(Circular, "b", bad, b=named("b"), a=Shape.rows(named("a")), c=bad)
        self.refused(Ambiguous, "c", Shape.rows(named("a")), a=Shape.rows(named("a")), c=Shape.lists(bad), d=bad)
        self.refused(Ambiguous, None, named("a") | Shape.rows(bad), a=Shape.rows(named("a")))


class Told(unittest.TestCase):
    def test_names(self):
        schema = Schema(NONE, {"b": NONE, "a": TEXTS, "ab": named("b"), "z": ANY, "aa": ANY})
        self.assertEqual(schema.names(), ["a", "aa", "ab", "b", "z"])
        schema.names().clear()
        self.assertEqual(schema.names(), ["a", "aa", "ab", "b", "z"])
        self.assertIs(type(schema.names()), list)
        for empty in (Schema(NONE), Schema(NONE, None), Schema(NONE, {}), Schema(NONE, named=None), Schema.of(NONE)):
            self.assertEqual(empty.names(), [])
        self.assertEqual(Schema.of(root=named("named"), self=TEXTS, named=NONE).names(), ["named", "self"])
        self.assertEqual(Schema(NONE, {letter: NONE for letter in "abcdefghijklmnopqrst"}).names(), list("abcdefghijklmnopqrst"))

    def test_later_changes_have_no_effect(self):
        table = {"a": NONE, "b": TEXTS}
        schema = Schema(named("a") | named("b"), table)
        table["a"] = INTEGERS
        table["c"] = ANY
        del table["b"]
        self.assertEqual(schema.names(), ["a", "b"])
        self.assertEqual([schema.matches(value) for value in (None, "x", 5)], [True, True, False])
        required = {1: named("a")}
        schema = Schema(Shape.record(required), {"a": NONE})
        required.clear()
        self.assertEqual([schema.matches({1: None}), schema.matches({})], [True, False])

    def test_the_same_shapes_in_two_schemas(self):
        shape = Shape.lists(named("a"))
        one, other = Schema.of(shape, a=NONE), Schema.of(shape, a=TEXTS)
        for _ in range(2):
            self.assertEqual([one.matches([None]), one.matches(["x"])], [True, False])
            self.assertEqual([other.matches([None]), other.matches(["x"])], [False, True])
            self.assertEqual(Document.read([8, 1, 1], schema=one).value(), [None])
            self.assertEqual(Document.read([8, 1, 7, 0], schema=other).value(), [""])


class Matches(unittest.TestCase):
    def matches(self, schema, good, bad):
        for value in good:
            self.assertIs(schema.matches(value), True, value)
            self.assertIs(schema.matches(value=value), True, value)
        for value in [*bad, *BAD_THINGS, Document.of(1), [Document.of(1)], NONE]:
            self.assertIs(schema.matches(value), False, value)

    def test_anything(self):
        self.matches(Schema(ANY), [value for value, _ in DOCUMENTS] + [nested(24, lambda one: [one])],
                     [nested(25, lambda one: [one]), Tag(1, nested(24, lambda one: [one]))])

    def test_just(self):
        values = [value for value, _ in DOCUMENTS]
        for at, value in enumerate(values):
            self.matches(Schema(Shape.just(value)), [value], values[:at] + values[at + 1:])

    def test_each_kind(self):
        self.matches(Schema(Shape.integers(-3, 300)), [-3, 0, 300], [-4, 301, True, None, "1", [1]])
        self.matches(Schema(Shape.texts(1, 2)), ["a", "ab"], ["", "abc", (1,), 1])
        self.matches(Schema(Shape.octets(1, 2)), [(1,), (1, 2)], [(), (1, 2, 3), "a", [1]])
        self.matches(Schema(Shape.rows(NONE, TEXTS)), [[None, ""]], [[], [None], ["", None], [None, "", 1]])
        self.matches(Schema(Shape.lists(TEXTS, least=1, most=2)), [["a"], ["a", "b"]], [[], ["a"] * 3, [1], {"a": "a"}])
        self.matches(Schema(Shape.maps(TEXTS, NONE, least=1, most=2)), [{"a": None}, {"a": None, "b": None}],
                     [{}, {"a": 1}, {1: None}, dict.fromkeys("abc"), [], ["a"]])
        self.matches(Schema(Shape.record({"a": NONE, 1: TEXTS}, optional={(): ANY})),
                     [{"a": None, 1: ""}, {"a": None, 1: "", (): [1]}],
                     [{}, {"a": None}, {"a": None, 1: 1}, {"a": None, 1: "", 2: 2}, {"a": None, 1: "", (): 1, (1,): 1}])
        self.matches(Schema(Shape.tagged(3, TEXTS)), [Tag(3, "")], [Tag(3, 1), Tag(4, ""), "", [3, ""]])
        self.matches(Schema(NONE | Shape.tagged(3, TEXTS) | Shape.tagged(4, NONE)), [None, Tag(3, ""), Tag(4, None)],
                     [Tag(3, None), Tag(4, ""), Tag(5, "")])

    def test_names(self):
        schema = Schema.of(named("tree"), tree=Shape.integers(0, 9) | Shape.rows(named("tree"), named("tree")))
        self.matches(schema, [5, [1, 2], [[1, 2], 3], nested(24, lambda one: [one, 1], 1)],
                     [10, [], [1], [1, 2, 3], [[1, 2], "a"], nested(24, lambda one: [one, 1], 10), None])

    def test_true_is_not_one(self):
        self.matches(Schema(Shape.just([1, {1: 0}])), [[1, {1: 0}]], [[True, {1: 0}], [1, {1: False}]])
        self.matches(Schema(Shape.just([True])), [[True]], [[1]])
        self.matches(Schema(Shape.maps(Shape.integers(), Shape.just(False))), [{1: False}], [{1: 0}])

    def test_value_is_not_changed(self):
        value = {2: [1], 1: {"b": 1, "a": Tag(1, [2])}}
        Schema(ANY).matches(value)
        self.assertEqual(repr(value), "{2: [1], 1: {'b': 1, 'a': Tag(1, 08 01 05 02)}}")


class LeastDepth(unittest.TestCase):
    def test_shapes(self):
        for shape, depth in [
            (ANY, 0), (NONE, 0), (INTEGERS, 0), (TEXTS, 0), (Shape.octets(), 0), (Shape.just([]), 1), (Shape.just([[], 1]), 2),
            (Shape.just({1: Tag(2, {})}), 3), (Shape.just("a"), 0), (Shape.just(nested(24, lambda one: [one])), 24),
            (Shape.rows(), 1), (Shape.rows(NONE, NONE), 1), (Shape.rows(NONE, Shape.rows(Shape.rows()), TEXTS), 3),
            (Shape.lists(Shape.rows()), 1), (Shape.lists(Shape.rows(), least=1), 2), (Shape.lists(ANY, least=1), 1),
            (Shape.maps(ANY, Shape.rows()), 1), (Shape.maps(ANY, Shape.rows(), least=2), 2), (Shape.record({}), 1),
            (Shape.record({1: Shape.rows(), 2: NONE}, optional={3: Shape.just([[[]]])}), 2), (Shape.tagged(1, NONE), 1),
            (Shape.record({}, optional={3: Shape.just([[[]]])}), 1), (Shape.tagged(1, Shape.rows()), 2),
            (Shape.rows() | TEXTS, 0), (Shape.rows(Shape.rows()) | Shape.just({}), 1), (Shape.fields(a=Shape.rows()), 2),
            (Shape.tagged(1, Shape.rows(Shape.rows())) | Shape.tagged(2, Shape.rows()), 2), (tagged(24, NONE), 24),
        ]:
            self.assertEqual(Schema(shape).least_depth(), depth)
            self.assertEqual(Schema(shape).least_depth(None), depth)
            self.assertEqual(Schema(NONE, {"a": shape}).least_depth(name="a"), depth)

    def test_names(self):
        schema = Schema.of(
            Shape.rows(named("a")), a=named("b") | Shape.rows(Shape.rows(named("a"))), b=Shape.tagged(1, named("c")),
            c=Shape.lists(named("d"), least=1), d=Shape.just([]) | Shape.tagged(3, named("a")),
            e=Shape.record({1: named("a"), 2: named("b")}, optional={3: named("e")}),
        )
        self.assertEqual([schema.least_depth(name) for name in [None, *schema.names()]], [4, 3, 3, 2, 1, 4])

    def test_long_chains(self):
        table = {letter: Shape.tagged(1, named(after)) for letter, after in zip("abcdefghijklmnopqrs", "bcdefghijklmnopqrst")}
        schema = Schema(named("a") | Shape.rows(named("a")), {**table, "t": Shape.rows(NONE)})
        self.assertEqual(schema.least_depth(), 20)
        self.assertEqual([schema.least_depth(name) for name in schema.names()], list(range(20, 0, -1)))
        turned = {letter: Shape.tagged(1, named(after)) for letter, after in zip("tsrqponmlkjihgfedcb", "srqponmlkjihgfedcba")}
        schema = Schema(named("t"), {**turned, "a": NONE})
        self.assertEqual(schema.least_depth(), 19)


if __name__ == "__main__":
    unittest.main()
