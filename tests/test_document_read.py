"""Documents read without a schema: the first wrong byte and unfinished data."""

import itertools
import random
import time
import unittest

from test_values import DOCUMENTS, in_tag, nested

from shortestbytes.counts import MOST, number_at
from shortestbytes.documents import Document
from shortestbytes.errors import Unfinished, WrongByte
from shortestbytes.values import Tag

NO_BYTES = [256, -1, 10 ** 399, True, False, None, "a", "", (), (1,), [], [5], {}, {1: 2}, Tag(1, 1), WrongByte(0),
            Document.of(1)]
TEXT_CODES = [9, 10, *range(32, 37), *range(38, 127)]


def told(data, **more):
    """What reading data gives: the row of the document, or the error."""
    try:
        return Document.read(data, **more).data
    except WrongByte as error:
        return ("wrong", error.at)
    except Unfinished as error:
        return ("unfinished", error.at)


# Another way to find the first wrong byte: item by item, and for each beginning of a key by the
# greatest key that begins with it. The errors are those of the program, the rest is not.


def plain_code(data, at, turned=False):
    part = [255 - entry if type(entry) is int and turned else entry for entry in data[at:at + 64]]
    try:
        number, end = number_at(part)
    except WrongByte as error:
        raise WrongByte(at + error.at)
    except Unfinished:
        raise Unfinished(len(data))
    return number, at + end


def plain_leaf(data, at):
    kind = data[at]
    if kind in (1, 2, 3):
        return at + 1
    number, end = plain_code(data, at + 1, kind == 4)
    if kind in (4, 5):
        return end
    for index in range(end, min(end + number, len(data))):
        if type(data[index]) is not int or data[index] not in (TEXT_CODES if kind == 7 else range(256)):
            raise WrongByte(index)
    if end + number > len(data):
        raise Unfinished(len(data))
    return end + number


def greatest_key(row):
    """The greatest key that begins with the bytes of a row, cut behind many bytes."""
    kind, *code = row
    if kind == 4:
        # Of the turned codes that of the least number is the greatest.
        code = [255 - byte for byte in code] or [0]
        missing = (1 if code[0] < 192 else code[0] - 190) - len(code)
        least = [192 if code[0] == 192 else 1] + [0] * missing if len(code) == 1 else [0] * missing
        return [4] + [255 - byte for byte in code + least[:missing]]
    code = code or [254]
    size = 1 if code[0] < 192 else code[0] - 190
    content = code[size:]
    code = code[:size] + [255] * (size - len(code))
    if kind != 5:
        content += [126 if kind == 7 else 255] * (min(number_at(code)[0], 300) - len(content))
    return [kind] + code + content


def plain_item(data, at, level, before=None, is_key=False):
    """The index behind the item at an index; raises WrongByte or Unfinished."""
    if at == len(data):
        raise Unfinished(at)
    kinds = range(4, 8) if is_key else range(1, 8 if level == 25 else 11)
    if type(data[at]) is not int or data[at] not in kinds:
        raise WrongByte(at)
    if is_key:
        return plain_key(data, at, before)
    kind = data[at]
    if kind <= 7:
        return plain_leaf(data, at)
    number, end = plain_code(data, at + 1)
    if kind == 10:
        return plain_item(data, end, level + 1)
    previous = None
    for _ in range(number):
        if kind == 9:
            begin = end
            end = plain_item(data, begin, level + 1, previous, True)
            previous = list(data[begin:end])
        end = plain_item(data, end, level + 1)
    return end


def plain_key(data, at, before):
    stop = None
    try:
        end = plain_leaf(data, at)
    except WrongByte as error:
        stop, end = error, error.at
    except Unfinished as error:
        stop, end = error, len(data)
    for index in range(at, end):
        if before is not None and greatest_key(data[at:index + 1]) <= before:
            raise WrongByte(index)
    if stop is not None:
        raise stop
    return end


def plainly_told(data):
    try:
        end = plain_item(data, 0, 1)
    except WrongByte as error:
        return ("wrong", error.at)
    except Unfinished as error:
        return ("unfinished", error.at)
    return tuple(data) if end == len(data) else ("wrong", end)


class Documents(unittest.TestCase):
    def test_what_was_written_is_read(self):
        for value, row in DOCUMENTS:
            for data in (list(row), tuple(row), Document.of(value)):
                document = Document.read(data)
                self.assertEqual(document, Document.of(value))
                self.assertIs(type(document.data), tuple)
                self.assertEqual(document.value(), value)

    def test_each_beginning_is_unfinished(self):
        for value, row in DOCUMENTS + [(None, Document.of(nested(24, in_tag)).data)]:
            for size in range(len(row)):
                self.assertEqual(told(row[:size]), ("unfinished", size))

    def test_each_entry_behind_is_wrong(self):
        for value, row in DOCUMENTS:
            for entry in [0, 1, 255, None]:
                self.assertEqual(told(list(row) + [entry]), ("wrong", len(row)))
        self.assertEqual(told([1] * 50), ("wrong", 1))

    def test_by_name_and_by_position(self):
        self.assertEqual(Document.read(data=[5, 5], schema=None), Document.of(5))
        with self.assertRaises(TypeError):
            Document.read([5, 5], None)

    def test_data_stays_as_it_was_and_is_copied(self):
        data = [8, 1, 5, 1]
        document = Document.read(data)
        self.assertEqual(data, [8, 1, 5, 1])
        data.clear()
        self.assertEqual(document.data, (8, 1, 5, 1))


class Wrong(unittest.TestCase):
    def test_examples(self):
        # Behind the key "~" the next key may begin with 7, but behind this 7 the byte 1 is wrong.
        self.assertEqual(told([9, 2, 7, 1, 126, 1, 7, 1]), ("wrong", 7))
        self.assertEqual(told([9, 2, 7, 1, 126, 1, 7]), ("unfinished", 7))
        self.assertEqual(told([9, 2, 7, 1, 126, 1, 7, 2]), ("unfinished", 8))
        # Behind the key 255.
        self.assertEqual(told([9, 2, 5, 192, 255, 1, 5, 193]), ("unfinished", 8))
        self.assertEqual(told([9, 2, 5, 192, 255, 1, 5, 192]), ("wrong", 7))
        self.assertEqual(told([9, 2, 5, 192, 255, 1, 5, 192, 200, 1]), ("wrong", 7))
        # Behind the key -1.
        self.assertEqual(told([9, 2, 4, 255, 1, 4]), ("wrong", 5 + 0))
        self.assertEqual(told([9, 2, 4, 255, 1, 5]), ("unfinished", 6))

    def test_empty(self):
        for data in ([], ()):
            self.assertEqual(told(data), ("unfinished", 0))

    def test_kind_bytes(self):
        for byte in range(256):
            self.assertEqual(told([byte])[0] == "wrong", not 1 <= byte <= 10, byte)
            self.assertEqual(told([9, 1, byte])[0] == "wrong", not 4 <= byte <= 7, byte)
            self.assertEqual(told([8, 1, byte])[0] == "wrong", not 1 <= byte <= 10, byte)

    def test_codes(self):
        for kind in (5, 6, 7, 8, 9, 10):
            self.assertEqual(told([kind, 255]), ("wrong", 1))
            for byte in range(192):
                self.assertEqual(told([kind, 192, byte]), ("wrong", 2))
            for first in range(193, 255):
                self.assertEqual(told([kind, first, 0]), ("wrong", 2))
            self.assertEqual(told([kind, 254] + [255] * 62), ("unfinished", 64))
            greatest = [kind, 254] + [255] * 63
            self.assertEqual(told(greatest), tuple(greatest) if kind == 5 else ("unfinished", 65))
        self.assertEqual(told([4, 0]), ("wrong", 1))
        for byte in range(64, 256):
            self.assertEqual(told([4, 63, byte]), ("wrong", 2))
        for first in range(1, 63):
            self.assertEqual(told([4, first, 255]), ("wrong", 2))
        self.assertEqual(told([4, 63, 63]), (4, 63, 63))

    def test_characters(self):
        for code in range(256):
            self.assertEqual(told([7, 2, code])[0] == "wrong", code not in TEXT_CODES)
            self.assertEqual(told([9, 1, 7, 2, 97, code])[0] == "wrong", code not in TEXT_CODES)
            self.assertEqual(told([6, 2, code]), ("unfinished", 3))

    def test_entries_that_are_no_bytes(self):
        row = [9, 2, 5, 193, 1, 44, 7, 1, 97, 6, 2, 1, 1, 8, 1, 1]
        self.assertEqual(told(row), tuple(row))
        for entry in NO_BYTES:
            for at in range(len(row) + 1):
                data = row[:at] + [entry] + row[at + 1:]
                self.assertEqual(told(data), ("wrong", at))
                self.assertEqual(told(tuple(data)), ("wrong", at))
                self.assertEqual(told(row[:at] + [entry]), ("wrong", at))

    def test_the_first_one_is_told(self):
        self.assertEqual(told([8, 2, 11, None, 5]), ("wrong", 2))
        self.assertEqual(told([8, 2, 1, None]), ("wrong", 3))

    def test_levels(self):
        for head in ([8, 1], [9, 1, 5, 1], [10, 5]):
            begun = head * 23
            for kind in (8, 9, 10):
                self.assertEqual(told(begun + [kind])[0], "unfinished")
                self.assertEqual(told(begun + head + [kind]), ("wrong", 24 * len(head)))
            for kind in range(1, 8):
                self.assertNotEqual(told(begun + head + [kind])[0], "wrong")
            self.assertEqual(told(begun + head + [5, 3]), tuple(begun + head + [5, 3]))
            self.assertEqual(told(begun + [8, 0]), tuple(begun + [8, 0]))
            self.assertEqual(told(begun + [8, 2, 1, 8]), ("wrong", len(begun) + 3))
            self.assertEqual(told(begun + [9, 2, 5, 1, 1, 6, 0, 10]), ("wrong", len(begun) + 7))

    def test_keys_not_ascending(self):
        keys = [-(256 ** 63), -65537, -300, -257, -256, -193, -192, -2, -1, 0, 1, 191, 192, 255, 256, 300, 65536, MOST,
                (), (0,), (255,), (0, 0), (255, 255), (0,) * 192, "", "\t", "~", "\t\t", "a~", "b", "aa", "~" * 192]
        keys = sorted(keys, key=Document.of)
        rows = [list(Document.of(key)) for key in keys]
        for (one, left), (two, right) in itertools.product(enumerate(rows), repeat=2):
            data = [9, 2] + left + [1] + right + [1]
            if one < two:
                self.assertEqual(told(data), tuple(data))
            else:
                self.assertEqual(told(data), plainly_told(data))
                self.assertEqual(told(data)[0], "wrong")
                self.assertLess(told(data)[1], len(data) - 1)

    def test_keys_that_leave_little_room(self):
        for key, allowed in [
            ([4, 63, 63], [4, 5, 6, 7]), ([4, 255], [5, 6, 7]), ([5, 254] + [255] * 63, [6, 7]), ([7, 1, 126], [7]),
            ([5, 254] + [255] * 62 + [254], [5, 6, 7]), ([6, 2, 255, 255], [6, 7]), ([6, 2, 255, 254], [6, 7]),
        ]:
            for kind in range(4, 8):
                self.assertEqual(told([9, 2] + key + [1, kind])[0] != "wrong", kind in allowed)
        begun = [9, 2, 7, 2, 126, 126, 1, 7]
        self.assertEqual([told(begun + [size])[0] for size in (0, 1, 2, 3, 192)], ["wrong"] * 3 + ["unfinished"] * 2)
        begun = [9, 2, 7, 2, 97, 126, 1, 7, 2]
        for code in range(256):
            self.assertEqual(told(begun + [code])[0] != "wrong", code in TEXT_CODES and code >= 98)
        for begun in ([98], [98, 9], [99]):
            for code in range(256):
                data = [9, 2, 7, 3, 97, 126, 126, 1, 7, 3] + begun + [code]
                self.assertEqual(told(data)[0] != "wrong", code in TEXT_CODES)
                data = [9, 2, 6, 3, 97, 255, 255, 1, 6, 3] + begun + [code]
                self.assertEqual(told(data)[0] != "wrong", True)
        begun = [9, 2, 6, 192, 255] + [255] * 255 + [1, 6]
        for byte in range(256):
            self.assertEqual(told(begun + [byte])[0] != "wrong", 193 <= byte <= 254)

    def test_many_pairs_left(self):
        self.assertEqual(told([9, 254] + [255] * 63 + [7, 1, 126, 1, 7, 2])[0], "unfinished")
        self.assertEqual(told([9, 254] + [255] * 63 + [7, 254] + [255] * 63 + [126] * 500)[0], "unfinished")

    def test_the_same_as_plainly_told(self):
        chance = random.Random(5)
        rows = [row for _, row in DOCUMENTS if len(row) < 60]
        rows += [[9, 3, 4, 254, 1, 5, 192, 200, 8, 0, 7, 2, 97, 98, 10, 5, 1],
                 [9, 4, 6, 1, 9, 1, 6, 2, 1, 2, 1, 6, 2, 1, 3, 1, 7, 0, 9, 2, 4, 63, 60, 1, 4, 64, 1]]
        bytes_of_interest = [0, 1, 2, 4, 5, 6, 7, 8, 9, 10, 11, 37, 62, 63, 64, 97, 98, 126, 191, 192, 193, 194, 254, 255]
        for _ in range(6000):
            data = list(chance.choice(rows))
            for _ in range(chance.choice([1, 1, 2, 3])):
                at = chance.randrange(len(data) + 1)
                data[at:at + chance.choice([0, 1])] = chance.choices(bytes_of_interest, k=chance.choice([0, 1, 1, 2]))
            self.assertEqual(told(data), plainly_told(data), data)

    def test_all_short_maps(self):
        keys = [[4, 62, 254, 254], [4, 62, 254, 255], [4, 63, 0], [4, 63, 63], [4, 64], [4, 254], [4, 255], [5, 0], [5, 191],
                [5, 192, 192], [5, 192, 255], [5, 193, 1, 0], [5, 193, 255, 255], [6, 0], [6, 1, 255], [6, 2, 0, 0],
                [7, 0], [7, 1, 9], [7, 1, 36], [7, 1, 126], [7, 2, 10, 126]]
        for key in keys:
            begun = [9, 3] + key + [1]
            alive = [[]]
            while alive:
                row = alive.pop()
                for byte in range(256):
                    found = told(begun + row + [byte])
                    self.assertEqual(found, plainly_told(begun + row + [byte]))
                    if found[0] == "unfinished" and len(row) < 2 and byte in (2, 4, 5, 63, 192):
                        alive.append(row + [byte])


class Long(unittest.TestCase):
    def test_long_documents(self):
        for value in ["ab" * 5900, (255,) * 11000, [None] * 11000, {number: None for number in range(2400)}, [[]] * 5900,
                      {"k" * size: size for size in range(130)}, [MOST] * 180, nested(24, in_tag)]:
            data = Document.of(value).data
            self.assertLessEqual(len(data), 12000)
            begun = time.perf_counter()
            self.assertEqual(Document.read(list(data)).value(), value)
            self.assertLess(time.perf_counter() - begun, 20)


if __name__ == "__main__":
    unittest.main()
