"""Loose documents: what they are shortened to, and what is wrong in them."""

import random
import time
import unittest

from test_document_read import NO_BYTES, TEXT_CODES
from test_values import DOCUMENTS, in_tag, nested
from test_views import steps_of

from shortestbytes.counts import MOST, number_code
from shortestbytes.documents import Document
from shortestbytes.errors import DuplicateKey, Unfinished, WrongByte
from shortestbytes.loose import shorten
from shortestbytes.values import Tag

VALUES = [value for value, row in DOCUMENTS if len(row) < 80] + [
    [1, [2, [], "a"], {1: [3], "b": Tag(5, [4])}],
    {-300: [1, 2], 0: {"a": (7,), "bb": [None]}, 300: Tag(300, {1: 2}), (): 1, (5, 6): [], "": 2, "~~": {}},
    Tag(1, Tag(192, [[[5]], {(): "c"}])),
    nested(24, in_tag),
    nested(23, lambda inner: {"k": inner}, [1, "a"]),
]


def outcome(data):
    """The bytes of what data is shortened to, or the word and the field of the error."""
    try:
        return shorten(data).data
    except WrongByte as error:
        return ("wrong", error.at)
    except Unfinished as error:
        return ("unfinished", error.at)
    except DuplicateKey as error:
        return ("key", error.at)


class Loosener:
    """Writes values as loose documents by chance."""

    def __init__(self, chance, often):
        self.chance = chance
        self.often = often

    def takes(self):
        return self.chance.random() < self.often

    def code(self, number):
        if not self.takes():
            return number_code(number)
        least = max(1, (number.bit_length() + 7) // 8)
        size = min(63, self.chance.choice([least, least + 1, least + 3, 63]))
        return [191 + size, *number.to_bytes(size, "big")]

    def gaps(self):
        found = []
        while self.takes() and len(found) < 20:
            size = self.chance.choice([0, 1, 3])
            found += [15, *self.code(size), *self.chance.choices(range(256), k=size)]
        return found

    def cut(self, things):
        """The things in pieces, also none, or None if they are not in pieces."""
        if not self.takes():
            return None
        places = sorted(self.chance.choices(range(len(things) + 1), k=self.chance.choice([0, 1, 3])))
        pieces = [things[low:high] for low, high in zip([0] + places, places + [len(things)])]
        return [piece for piece in pieces if piece or self.takes()]

    def item(self, value):
        return self.gaps() + self.behind_gaps(value)

    def behind_gaps(self, value):
        if value is None or isinstance(value, bool):
            return list(Document.of(value))
        if isinstance(value, int):
            return [5] + self.code(value) if value >= 0 else [4] + [255 - byte for byte in self.code(-1 - value)]
        if isinstance(value, Tag):
            return [10] + self.code(value.number) + self.item(value.content())
        kind, things = self.things(value)
        pieces = self.cut(things)
        if pieces is None:
            return self.piece(kind, things)
        row = [kind + 5]
        for piece in pieces:
            row += self.gaps() + self.piece(kind, piece)
        return row + self.gaps() + [0]

    def things(self, value):
        """The kind byte, and the rows of the bytes, items or pairs."""
        if isinstance(value, tuple):
            return 6, [[byte] for byte in value]
        if isinstance(value, str):
            return 7, [[ord(sign)] for sign in value]
        if isinstance(value, list):
            return 8, [self.item(item) for item in value]
        pairs = [self.item(key) + self.item(value[key]) for key in value]
        if self.takes():
            self.chance.shuffle(pairs)
        return 9, pairs

    def piece(self, kind, things):
        return [kind] + self.code(len(things)) + [byte for thing in things for byte in thing]


class Wrong(Exception):
    """What another way to read loose data, by the words of the document, finds first."""


class Plain:
    """Another way to read loose data: into Python's values, one entry after another."""

    def __init__(self, data):
        self.data = data
        self.at = 0

    def entry(self, is_right):
        if self.at >= len(self.data):
            raise Wrong("unfinished", len(self.data))
        entry = self.data[self.at]
        if type(entry) is not int or not 0 <= entry <= 255 or not is_right(entry):
            raise Wrong("wrong", self.at)
        self.at += 1
        return entry

    def number(self, below_zero=False):
        first = self.entry(lambda byte: byte != (0 if below_zero else 255))
        rest = [255 - first if below_zero else first]
        for _ in range(max(0, rest[0] - 191)):
            byte = self.entry(lambda byte: True)
            rest.append(255 - byte if below_zero else byte)
        return rest[0] if len(rest) == 1 else int.from_bytes(bytes(rest[1:]), "big")

    def kind(self, is_right):
        while True:
            kind = self.entry(is_right)
            if kind != 15:
                return kind
            for _ in range(self.number()):
                self.entry(lambda byte: True)

    def item(self, level):
        deep = (8, 9, 10, 13, 14) if level == 25 else ()
        return self.behind(self.kind(lambda kind: 1 <= kind <= 15 and kind not in deep), level)

    def behind(self, kind, level):
        if kind in (1, 2, 3):
            return {1: None, 2: False, 3: True}[kind]
        if kind in (4, 5):
            return -1 - self.number(True) if kind == 4 else self.number()
        if kind == 10:
            number = self.number()
            return Tag(number, self.item(level + 1))
        found = {}
        if kind in (6, 7, 8, 9):
            self.piece(kind, found, level)
        else:
            while self.kind(lambda byte: byte in (0, kind - 5, 15)) != 0:
                self.piece(kind - 5, found, level)
        if kind in (6, 11):
            return tuple(found.values())
        if kind in (7, 12):
            return "".join(map(chr, found.values()))
        return list(found.values()) if kind in (8, 13) else {key: found[key] for key in found}

    def piece(self, kind, found, level):
        for _ in range(self.number()):
            if kind == 6:
                found[len(found)] = self.entry(lambda byte: True)
            elif kind == 7:
                found[len(found)] = self.entry(lambda byte: byte in TEXT_CODES)
            elif kind == 8:
                found[len(found)] = self.item(level + 1)
            else:
                key_kind = self.kind(lambda byte: byte in (4, 5, 6, 7, 11, 12, 15))
                at = self.at - 1
                key = self.behind(key_kind, level + 1)
                if key in found:
                    raise Wrong("key", at)
                found[key] = self.item(level + 1)


def plainly(data):
    plain = Plain(data)
    try:
        value = plain.item(1)
        if plain.at < len(data):
            return ("wrong", plain.at)
    except Wrong as wrong:
        return wrong.args
    return Document.of(value).data


class Shortened(unittest.TestCase):
    def check(self, row, value):
        for data in (row, tuple(row)):
            self.assertEqual(outcome(data), Document.of(value).data)
        self.assertIs(type(shorten(row)), Document)

    def test_examples(self):
        self.check([14, 9, 1, 5, 192, 2, 1, 9, 1, 5, 1, 1, 0], {1: None, 2: None})
        self.assertEqual(shorten([14, 9, 1, 5, 192, 2, 1, 9, 1, 5, 1, 1, 0]).data, (9, 2, 5, 1, 1, 5, 2, 1))
        self.assertEqual(shorten([12, 7, 1, 97, 15, 1, 255, 7, 1, 98, 0]).data, (7, 2, 97, 98))
        self.assertEqual(outcome([9, 2, 5, 1, 1, 5, 192, 1, 1]), ("key", 5))

    def test_documents_are_their_own_shortened_form(self):
        for value, row in DOCUMENTS:
            self.check(row, value)
            self.assertEqual(shorten(Document.of(value)), Document.of(value))

    def test_by_name(self):
        self.assertEqual(shorten(data=[5, 192, 1]).value(), 1)

    def test_data_stays_as_it_was(self):
        data = [9, 2, 5, 192, 2, 1, 5, 1, 1]
        shorten(data)
        self.assertEqual(data, [9, 2, 5, 192, 2, 1, 5, 1, 1])

    def test_codes(self):
        for number in (0, 1, 191, 192, 255, 256, 70000):
            for size in range(max(1, (number.bit_length() + 7) // 8), 64):
                code = [191 + size, *number.to_bytes(size, "big")]
                self.check([5] + code, number)
                self.check([4] + [255 - byte for byte in code], -1 - number)
                self.check([10] + code + [1], Tag(number, None))
                if number < 300:
                    self.check([6] + code + [7] * number, (7,) * number)
                    self.check([7] + code + [97] * number, "a" * number)
                    self.check([8] + code + [1] * number, [None] * number)
                    pairs = [byte for key in range(number) for byte in (5, 193, key // 256, key % 256, 1)]
                    self.check([9] + code + pairs, {key: None for key in range(number)})
                    self.check([15] + code + [255] * number + [1], None)
        self.check([5, 254] + [255] * 63, MOST)
        self.check([4, 1] + [0] * 63, -1 - MOST)

    def test_pairs_in_any_order(self):
        self.check([9, 3, 7, 1, 98, 1, 5, 3, 2, 4, 255, 3], {-1: True, 3: False, "b": None})
        self.check([9, 3, 5, 3, 2, 4, 255, 3, 7, 1, 98, 1], {-1: True, 3: False, "b": None})
        self.check([9, 2, 7, 0, 9, 2, 5, 2, 1, 5, 1, 1, 6, 0, 1], {"": {1: None, 2: None}, (): None})

    def test_pieces(self):
        self.check([11, 0], ())
        self.check([12, 0], "")
        self.check([13, 0], [])
        self.check([14, 0], {})
        self.check([11, 6, 0, 6, 0, 0], ())
        self.check([11, 6, 2, 0, 255, 6, 1, 7, 0], (0, 255, 7))
        self.check([12, 7, 1, 97, 7, 0, 7, 2, 98, 99, 0], "abc")
        self.check([13, 8, 1, 1, 8, 2, 13, 0, 2, 8, 0, 0], [None, [], False])
        self.check([14, 9, 1, 5, 3, 1, 9, 2, 5, 2, 1, 5, 1, 2, 9, 0, 0], {3: None, 2: None, 1: False})
        self.check([13, 8, 192, 1, 1, 8, 193, 0, 1, 3, 0], [None, True])
        self.check([9, 1, 12, 7, 1, 97, 7, 1, 98, 0, 11, 0], {"ab": ()})
        self.check([9, 2, 11, 6, 1, 5, 0, 1, 11, 0, 1], {(5,): None, (): None})
        self.check([11, *[6, 1, 9] * 200, 0], (9,) * 200)

    def test_gaps(self):
        gap = [15, 2, 0, 255]
        for many in range(4):
            gaps = gap * many
            self.check(gaps + [1], None)
            self.check(gaps + [8, 2] + gaps + [5, 1] + gaps + [10, 3] + gaps + [1], [1, Tag(3, None)])
            self.check(gaps + [9, 1] + gaps + [7, 1, 97] + gaps + [1], {"a": None})
            self.check(gaps + [12] + gaps + [7, 1, 97] + gaps + [7, 1, 98] + gaps + [0], "ab")
            self.check(gaps + [14] + gaps + [9, 1] + gaps + [11] + gaps + [0] + gaps + [2] + gaps + [0], {(): False})
        self.check([15, 0, 15, 192, 0, 15, 193, 0, 1, 15, 3], True)

    def test_by_chance(self):
        chance = random.Random(7)
        for often in (0.05, 0.3, 0.6):
            loosener = Loosener(chance, often)
            for _ in range(25):
                for value in VALUES:
                    row = loosener.item(value)
                    found = shorten(row)
                    self.assertEqual(found, Document.of(value))
                    self.assertLessEqual(len(found), len(row))

    def test_long_data(self):
        begun = time.perf_counter()
        self.check([13, *[8, 1, 1] * 3999, 0], [None] * 3999)
        self.check([15, 193, 46, 0] + [9] * 11776 + [1], None)
        self.check([14, *[byte for key in range(1400) for byte in (9, 1, 5, 193, key // 256, key % 256, 1)], 0],
                   {key: None for key in range(1400)})
        self.assertLess(time.perf_counter() - begun, 20)


class Refused(unittest.TestCase):
    def test_each_beginning_is_unfinished(self):
        chance = random.Random(3)
        loosener = Loosener(chance, 0.4)
        for value in VALUES:
            row = loosener.item(value)[:300]
            if plainly(row) == Document.of(value).data:
                for size in range(len(row)):
                    self.assertEqual(outcome(row[:size]), ("unfinished", size))
        for data in ([], (), [15], [15, 0], [15, 3, 1], [12], [12, 7, 1, 97], [13, 8, 1, 1], [15, 254] + [255] * 100):
            self.assertEqual(outcome(data), ("unfinished", len(data)))

    def test_where_a_kind_byte_must_come(self):
        for begun in ([], [15, 1, 9], [8, 1], [8, 2, 1], [13, 8, 1], [9, 1, 5, 1], [9, 1, 12, 0], [10, 7], [8, 1, 15, 0]):
            for byte in range(256):
                found = outcome(begun + [byte])
                self.assertEqual(found == ("wrong", len(begun)), not 1 <= byte <= 15, (begun, byte))

    def test_where_a_key_must_come(self):
        for begun in ([9, 1], [9, 2, 5, 1, 1], [14, 9, 1], [14, 9, 1, 5, 1, 1, 9, 1], [9, 1, 15, 1, 9]):
            for byte in range(256):
                found = outcome(begun + [byte])
                self.assertEqual(found == ("wrong", len(begun)), byte not in (4, 5, 6, 7, 11, 12, 15), (begun, byte))

    def test_where_a_piece_can_come(self):
        for whole, piece in [(11, 6), (12, 7), (13, 8), (14, 9)]:
            for begun in ([whole], [whole, piece, 0], [whole, 15, 0], [whole, piece, 0, 15, 1, 7], [8, 2, 1, whole]):
                for byte in range(256):
                    found = outcome(begun + [byte])
                    self.assertEqual(found == ("wrong", len(begun)), byte not in (0, piece, 15), (begun, byte))

    def test_the_first_bytes_of_codes(self):
        for kind in (5, 6, 7, 8, 9, 10, 15):
            self.assertEqual(outcome([kind, 255]), ("wrong", 1))
            self.assertEqual(outcome([8, 1, kind, 255, 1]), ("wrong", 3))
            self.assertEqual(outcome([kind, 254] + [0] * 62), ("unfinished", 64))
        self.assertEqual(outcome([4, 0]), ("wrong", 1))
        self.assertEqual(outcome([4, 1] + [255] * 63), Document.of(-1).data)
        self.assertEqual(outcome([12, 7, 255]), ("wrong", 2))

    def test_characters(self):
        for code in range(256):
            for begun, behind in [([7, 1], []), ([7, 192, 1], []), ([12, 7, 1], [0]), ([9, 1, 7, 1], [1]), ([8, 1, 7, 2, 97], [])]:
                found = outcome(begun + [code] + behind)
                self.assertEqual(found == ("wrong", len(begun)), code not in TEXT_CODES)
            self.assertEqual(outcome([6, 1, code]), (6, 1, code))
            self.assertEqual(outcome([15, 1, code, 1]), (1,))

    def test_behind_the_document(self):
        for row in ([1], [5, 192, 1], [12, 0], [14, 9, 1, 5, 1, 1, 0], [15, 0, 1]):
            for behind in ([0], [1], [15, 0], [15], [None], [256], [255, 1]):
                self.assertEqual(outcome(row + behind), ("wrong", len(row)))

    def test_entries_that_are_no_bytes(self):
        row = [15, 1, 9, 14, 9, 2, 5, 193, 0, 3, 12, 7, 1, 97, 0, 11, 6, 2, 0, 255, 0, 4, 62, 255, 250]
        row += [9, 1, 7, 0, 13, 8, 1, 10, 3, 1, 0, 0]
        self.assertEqual(outcome(row), Document.of({3: "a", (0, 255): -6, "": [Tag(3, None)]}).data)
        for entry in NO_BYTES:
            for at in range(len(row) + 1):
                self.assertEqual(outcome(row[:at] + [entry] + row[at + 1:]), ("wrong", at))
                self.assertEqual(outcome(tuple(row[:at] + [entry])), ("wrong", at))

    def test_levels(self):
        for head in ([8, 1], [9, 1, 5, 1], [10, 5], [13, 8, 1], [14, 9, 1, 5, 1], [15, 0, 8, 1]):
            ends = [0] * 24 if head[0] in (13, 14) else []
            for kind in range(1, 16):
                self.assertNotEqual(outcome(head * 23 + [kind])[0], "wrong")
                is_nest = kind in (8, 9, 10, 13, 14)
                self.assertEqual(outcome(head * 24 + [kind]) == ("wrong", 24 * len(head)), is_nest)
                self.assertEqual(outcome(head * 24 + [15, 0, kind]) == ("wrong", 24 * len(head) + 2), is_nest)
            for leaf in ([5, 1], [11, 6, 1, 5, 0], [12, 7, 1, 97, 0], [15, 0, 1]):
                self.assertEqual(type(outcome(head * 24 + leaf + ends)[0]), int)
                self.assertEqual(Document.read(outcome(head * 24 + leaf + ends)).depth(), 24)
            for nest in ([13, 8, 1, 1, 0], [14, 9, 1, 5, 1, 1, 0], [8, 0], [13, 0]):
                self.assertEqual(Document.read(outcome(head * 23 + nest + ends[1:])).depth(), 24)
        # Keys stand at the level of the parts of their map, also in pieces.
        self.assertEqual(Document.read(outcome([8, 1] * 23 + [9, 1, 12, 7, 0, 0, 1])).depth(), 24)

    def test_equal_keys(self):
        for one, two in [([5, 1], [5, 192, 1]), ([5, 1], [5, 193, 0, 1]), ([4, 255], [4, 63, 255]), ([6, 1, 9], [11, 6, 1, 9, 0]),
                         ([7, 2, 97, 98], [12, 7, 1, 97, 7, 1, 98, 0]), ([7, 0], [12, 0]), ([6, 0], [11, 6, 0, 0]),
                         ([12, 7, 1, 97, 0], [12, 15, 0, 7, 0, 7, 1, 97, 15, 0, 0]), ([7, 192, 0], [7, 0])]:
            for left, right in [(one, two), (two, one), (one, one)]:
                for gap in ([], [15, 1, 9]):
                    begun = [9, 3] + left + [1] + gap
                    for behind in ([], [None], [0], [1, 5, 7, 1]):
                        self.assertEqual(outcome(begun + right + behind), ("key", len(begun)))
                    begun = [14, 9, 1] + left + [8, 0, 9, 0, 15, 0, 9, 1] + gap
                    self.assertEqual(outcome(begun + right), ("key", len(begun)))
                    # The key is not complete before its last byte.
                    for size in range(len(right)):
                        self.assertEqual(outcome(begun + right[:size]), ("unfinished", len(begun) + size))
        self.assertEqual(outcome([9, 3, 5, 1, 1, 7, 1, 49, 1, 6, 1, 1, 1])[:2], (9, 3))
        self.assertEqual(outcome([9, 2, 5, 1, 9, 1, 5, 1, 1, 5, 2, 9, 1, 5, 1, 1])[:2], (9, 2))
        self.assertEqual(outcome([9, 1, 5, 1, 9, 2, 5, 2, 1, 5, 2, 1]), ("key", 9))

    def test_whichever_is_noticed_first(self):
        self.assertEqual(outcome([9, 3, 5, 1, 1, 5, 1, 1, 99]), ("key", 5))
        self.assertEqual(outcome([9, 3, 5, 1, 99, 5, 1, 1]), ("wrong", 4))
        self.assertEqual(outcome([9, 2, 7, 1, 97, 1, 7, 1, 37]), ("wrong", 8))
        self.assertEqual(outcome([9, 2, 7, 1, 97, 1, 12, 7, 1, 97, 99]), ("wrong", 10))
        self.assertEqual(outcome([9, 2, 5, 1, 1, 5, 1, None]), ("key", 5))
        self.assertEqual(outcome([8, 1] * 24 + [9, 2]), ("wrong", 48))

    def test_as_plainly_told(self):
        chance = random.Random(11)
        interesting = [0, 1, 2, 3, 4, 5, 6, 7, 8, 9, 10, 11, 12, 13, 14, 15, 16, 37, 62, 63, 64, 97, 191, 192, 193, 254, 255, None, True]
        told = {}
        for often in (0.1, 0.4):
            loosener = Loosener(chance, often)
            for _ in range(60):
                for value in VALUES:
                    row = loosener.item(value)
                    for _ in range(chance.choice([1, 1, 2])):
                        at = chance.randrange(len(row) + 1)
                        row[at:at + chance.choice([0, 1])] = chance.choices(interesting, k=chance.choice([0, 1, 1, 2]))
                    expected = plainly(row)
                    self.assertEqual(outcome(row), expected, row)
                    told[expected[0] if isinstance(expected[0], str) else "fine"] = True
        self.assertLessEqual({"fine", "unfinished", "wrong"}, set(told))

    def test_maps_by_chance(self):
        chance = random.Random(12)
        keys = [-1, 0, 1, 192, (), (1,), "", "a", "ab"]
        told = {}
        for _ in range(1500):
            loosener = Loosener(chance, 0.3)
            row = [14]
            for _ in range(chance.randint(1, 3)):
                pairs = [loosener.item(chance.choice(keys)) + loosener.item(chance.choice([1, [], {2: 3}])) for _ in range(chance.randint(0, 2))]
                row += loosener.gaps() + loosener.piece(9, pairs)
            row += [0]
            told[plainly(row)[0]] = True
            self.assertEqual(outcome(row), plainly(row))
        self.assertEqual(told, {9: True, "key": True})

    def test_great_numbers(self):
        greatest = [254] + [255] * 63
        for kind in (6, 7, 8, 9, 15):
            behind = [5, 1, 1] if kind == 9 else [9] * 3 if kind != 8 else [1] * 3
            self.assertEqual(outcome([kind] + greatest + behind), ("unfinished", 68))


class Same(unittest.TestCase):
    def test_parts_of_values(self):
        """Each part of a value by itself."""
        chance = random.Random(1)
        loosener = Loosener(chance, 0.5)
        for value in VALUES:
            for _, part in steps_of(value):
                self.assertEqual(shorten(loosener.item(part)).value(), part)


if __name__ == "__main__":
    unittest.main()
