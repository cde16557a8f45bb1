"""Writers: which items they take and refuse, and what they write."""

import random
import unittest

from test_documents import WORDS
from test_values import BAD_THINGS, DOCUMENTS, in_tag, nested

from shortestbytes.counts import MOST
from shortestbytes.documents import Document
from shortestbytes.errors import BadItem, Unfinished, WrongByte
from shortestbytes.shapes import Shape
from shortestbytes.values import Tag
from shortestbytes.writers import Writer

CONSTANTS = [("none", 1), ("false", 2), ("true", 3)]
NESTS = [("list", 8), ("map", 9), ("tag", 10)]
NO_WORDS = [None, True, False, 0, 1, 8, "", "None", "List", "int", "bool", "key", "list ", " list", "nonefalse", "%", [], ["list"],
            ("list",), (), {}, {"list": 1}, Document.of("list"), Tag(1, "list"), WrongByte(1), Shape.anything()]
NO_NUMBERS = [None, True, False, -1, 256 ** 63, 10 ** 399, "", "1", (), (1,), [], [1], {}, Document.of(1), Tag(1, 1)]


def put_all(writer, items):
    for word, worth in items:
        writer.put(word, worth)


def begun(*items):
    writer = Writer()
    put_all(writer, items)
    return writer


class Writers(unittest.TestCase):
    def refused(self, writer, *item, at):
        """An item is refused, and has no effect."""
        before = (writer.written(), writer.is_done)
        with self.assertRaises(BadItem) as caught:
            writer.put(*item)
        self.assertEqual(caught.exception.at, at)
        self.assertEqual((writer.written(), writer.is_done), before)

    def unfinished(self, writer, at):
        self.assertIs(writer.is_done, False)
        with self.assertRaises(Unfinished) as caught:
            writer.document()
        self.assertEqual(caught.exception.at, at)

    def test_example(self):
        writer = Writer()
        writer.put("list", 1)
        writer.put("text", "a")
        self.assertEqual(writer.written(), [8, 1, 7, 1, 97])

    def test_nothing_taken(self):
        writer = Writer()
        self.assertEqual(writer.written(), [])
        self.unfinished(writer, 0)

    def test_the_events_of_a_document_write_it(self):
        for value, row in DOCUMENTS + [(nested(24, in_tag), [10, 7] * 24 + [1])]:
            document = Document.of(value)
            writer = Writer()
            for start, _, _, word, worth in document.events():
                self.unfinished(writer, start)
                self.assertIsNone(writer.put(word, worth))
            self.assertIs(writer.is_done, True)
            self.assertEqual(writer.written(), list(row))
            self.assertEqual(writer.document(), document)
            self.assertIs(type(writer.document()), Document)

    def test_constants(self):
        for word, kind in CONSTANTS:
            for worth in (False, True, 0, "", "none", (), [], {}, kind, Document.of(None)):
                self.refused(Writer(), word, worth, at=0)
            writer = Writer()
            writer.put(word)
            self.assertEqual((writer.written(), writer.is_done), ([kind], True))
            self.assertEqual(begun((word, None)).written(), [kind])

    def test_integers(self):
        for number in (-1 - MOST, -193, -1, 0, 191, 192, MOST):
            self.assertEqual(begun(("integer", number)).document(), Document.of(number))
        for worth in (None, True, False, "", "5", "a", (), (5,), [], [5], {}, -2 - MOST, MOST + 1, 10 ** 399, Document.of(5), Tag(5, 5)):
            self.refused(Writer(), "integer", worth, at=0)
        self.refused(Writer(), "integer", at=0)

    def test_octets(self):
        for octets in ((), (0,), (255, 0), (7,) * 300):
            self.assertEqual(begun(("octets", octets)).document(), Document.of(octets))
        for worth in (None, True, 5, "", "a", [], [5], {}, (256,), (-1,), (1, True), (None,), ((),), Document.of((1,))):
            self.refused(Writer(), "octets", worth, at=0)
        self.refused(Writer(), "octets", at=0)

    def test_texts(self):
        for text in ("", "a", "\t\n ~", "b" * 300):
            self.assertEqual(begun(("text", text)).document(), Document.of(text))
        for worth in (None, True, 5, (), (97,), [], ["a"], {}, "%", "a%", "\r", "\x7f", "\u00e9", Document.of("a")):
            self.refused(Writer(), "text", worth, at=0)
        self.refused(Writer(), "text", at=0)

    def test_nests(self):
        for word, kind in NESTS:
            for number, code in [(1, [1]), (191, [191]), (192, [192, 192]), (300, [193, 1, 44]), (MOST, [254] + [255] * 63)]:
                writer = begun((word, number))
                self.assertEqual(writer.written(), [kind] + code)
                self.unfinished(writer, 1 + len(code))
            for worth in NO_NUMBERS:
                self.refused(Writer(), word, worth, at=0)
            self.refused(Writer(), word, at=0)
        for word, kind in NESTS[:2]:
            self.assertEqual((begun((word, 0)).written(), begun((word, 0)).is_done), ([kind, 0], True))
        self.unfinished(begun(("tag", 0)), 2)

    def test_words_that_are_none(self):
        for word in NO_WORDS:
            for worth in (None, 1, "a", []):
                self.refused(Writer(), word, worth, at=0)
                self.refused(begun(("list", 2), ("none", None)), word, worth, at=2)
                self.refused(begun(("map", 1)), word, worth, at=1)

    def test_keys_that_are_none(self):
        writer = begun(("map", 2))
        for item in [("none",), ("false",), ("true",), ("list", 0), ("map", 0), ("tag", 1), ("integer", True), ("text", "%"), ("octets", (256,))]:
            self.refused(writer, *item, at=1)
        writer.put("integer", 5)
        writer.put("list", 0)
        for item in [("none",), ("list", 0), ("tag", 1)]:
            self.refused(writer, *item, at=3)
        writer.put("text", "")
        writer.put("none")
        self.assertEqual(writer.document().value(), {5: [], "": None})

    def test_keys_ascend(self):
        keys = [-1 - MOST, -257, -193, -192, -1, 0, 191, 192, 255, 256, MOST, (), (0,), (255,), (0, 0), "", "\t", "~", "aa", "ab"]

        def item(key):
            return {int: "integer", tuple: "octets", str: "text"}[type(key)], key

        for one, left in enumerate(keys):
            for two, right in enumerate(keys):
                writer = begun(("map", 2), item(left), ("true", None))
                if one < two:
                    writer.put(*item(right))
                    writer.put("none")
                    self.assertEqual(writer.document().value(), {left: True, right: None})
                else:
                    self.refused(writer, *item(right), at=3)

    def test_keys_of_another_map_do_not_count(self):
        items = [("list", 2), ("map", 1), ("integer", 9), ("map", 1), ("integer", 3), ("none", None), ("map", 1), ("integer", 1), ("none", None)]
        self.assertEqual(begun(*items).document().value(), [{9: {3: None}}, {1: None}])

    def test_a_great_number_of_pairs(self):
        writer = begun(("map", MOST), ("text", "~"), ("none", None), ("text", "\t\t"), ("none", None))
        self.refused(writer, "text", "\t\t", at=5)
        self.unfinished(writer, 65 + 4 + 5)

    def test_levels(self):
        for words in (["list"], ["tag"], ["list", "tag"]):
            writer = Writer()
            for at in range(24):
                writer.put(words[at % len(words)], 1)
            for word in ("list", "map", "tag"):
                for number in (0, 1):
                    self.refused(writer, word, number, at=24)
            writer.put("text", "a")
            self.assertEqual(writer.document().depth(), 24)
        writer = begun(*[("list", 1)] * 23, ("map", 1))
        writer.put("integer", 1)
        self.refused(writer, "list", 0, at=25)
        writer.put("integer", 2)
        self.assertIs(writer.is_done, True)
        self.assertIs(begun(*[("list", 1)] * 23, ("map", 0)).is_done, True)

    def test_behind_a_whole_document(self):
        for items in ([("none", None)], [("list", 0)], [("map", 0)], [("tag", 5), ("text", "a")], [("list", 1), ("list", 0)]):
            writer = begun(*items)
            for item in [("none",), ("integer", 5), ("list", 0), ("tag", 1), ("text", "a"), ("octets", ()), ("map", 0), (None,), ([],)]:
                self.refused(writer, *item, at=len(items))
            self.assertIs(writer.is_done, True)

    def test_what_was_refused_has_no_effect(self):
        chance = random.Random(4)
        wrong = [("integer", True), ("key", 1), ("list", -1), ("text", 5), ("octets", [1]), (None, None), ([], []), ("none", 0)]
        for value, _ in DOCUMENTS:
            document = Document.of(value)
            writer = Writer()
            for at, (_, _, _, word, worth) in enumerate(document.events()):
                if chance.random() < 0.2:
                    self.refused(writer, *chance.choice(wrong), at=at)
                writer.put(word, worth)
            self.assertEqual(writer.document(), document)

    def test_written_is_told_anew(self):
        writer = begun(("list", 2))
        writer.written().append(5)
        writer.written().clear()
        self.assertEqual(writer.written(), [8, 2])
        self.assertIs(type(writer.written()), list)
        writer.put("none")
        self.assertEqual(writer.written(), [8, 2, 1])

    def test_by_name_and_by_position(self):
        writer = Writer()
        writer.put(word="list", worth=2)
        writer.put("text", worth="a")
        writer.put(word="none")
        self.assertEqual(writer.document().value(), ["a", None])

    def test_two_writers_share_nothing(self):
        one, two = Writer(), Writer()
        one.put("list", 2)
        self.assertEqual((two.written(), two.is_done), ([], False))
        two.put("true")
        self.assertEqual((one.written(), one.is_done), ([8, 2], False))

    def test_a_document_goes_on_without_the_writer(self):
        writer = begun(("tag", 3), ("none", None))
        one, two = writer.document(), writer.document()
        self.refused(writer, "none", at=2)
        self.assertEqual(one, two)
        self.assertEqual(one.data, (10, 3, 1))

    def test_is_done_is_a_property(self):
        self.assertIsInstance(vars(Writer)["is_done"], property)

    def test_worths_of_all_kinds_for_all_words(self):
        worths = [value for value, row in DOCUMENTS if len(row) < 30] + BAD_THINGS
        for word in sorted(set(WORDS[1:])):
            for worth in worths:
                writer = Writer()
                fine = {
                    "integer": type(worth) is int and -1 - MOST <= worth <= MOST,
                    "octets": type(worth) is tuple and all(type(byte) is int and 0 <= byte <= 255 for byte in worth),
                    "text": type(worth) is str and all(sign in "\t\n" or " " <= sign <= "~" and sign != "%" for sign in worth),
                }.get(word, type(worth) is int and 0 <= worth <= MOST)
                if (word in ("none", "false", "true") and worth is None) or (word not in ("none", "false", "true") and fine):
                    writer.put(word, worth)
                else:
                    self.refused(writer, word, worth, at=0)


if __name__ == "__main__":
    unittest.main()
