"""Numbers and their codes."""

import itertools
import unittest

from shortestbytes.counts import MOST, number_at, number_code
from shortestbytes.documents import Document
from shortestbytes.errors import BadNumber, BadValue, ShortestBytesError, Unfinished, WrongByte
from shortestbytes.values import Tag

NO_BYTES = [256, -1, 10 ** 399, True, False, None, "a", "", (), (1,), [], [5], {}, {1: 2}, Tag(1, 1), WrongByte(0)]


class Row:
    """Stands for its entries by length and indexes alone, as a Document does."""

    def __init__(self, entries):
        self.entries = tuple(entries)

    def __len__(self):
        return len(self.entries)

    def __getitem__(self, at):
        if not 0 <= at < len(self.entries):
            raise AssertionError(f"index {at} asked for")
        return self.entries[at]


def edges():
    """Numbers about each edge of a length of codes, ascending."""
    found = {0, 1, 2, 100, 190, 191, 192, 193, 254, 255, MOST - 1, MOST}
    for power in range(1, 63):
        for number in (256 ** power, 192 * 256 ** power, 255 * 256 ** power, 3 * 256 ** power + 7):
            found |= {number - 1, number, number + 1}
    return sorted(found)


def as_written(number):
    """The code of a number by the words of the document."""
    if number < 192:
        return [number]
    least = 1
    while 256 ** least <= number:
        least += 1
    return [191 + least] + list(number.to_bytes(least, "big"))


class NumberCode(unittest.TestCase):
    def test_most(self):
        self.assertEqual(MOST, 256 ** 63 - 1)

    def test_examples(self):
        for number, code in [
            (0, [0]), (1, [1]), (191, [191]), (192, [192, 192]), (255, [192, 255]), (256, [193, 1, 0]),
            (300, [193, 1, 44]), (65535, [193, 255, 255]), (65536, [194, 1, 0, 0]),
            (256 ** 62, [254, 1] + [0] * 62), (256 ** 62 - 1, [253] + [255] * 62),
            (256 ** 63 - 1, [254] + [255] * 63),
        ]:
            with self.subTest(number=number):
                self.assertEqual(number_code(number), code)

    def test_each_length(self):
        for number in edges():
            self.assertEqual(number_code(number), as_written(number))

    def test_entries_are_plain_integers_in_a_list(self):
        for number in edges():
            code = number_code(number)
            self.assertIs(type(code), list)
            self.assertEqual({type(byte) for byte in code}, {int})

    def test_new_list_each_time(self):
        for number in (0, 191, 192, 300, MOST):
            first = number_code(number)
            expected = list(first)
            first.append(9)
            first[0] = 77
            self.assertEqual(number_code(number), expected)

    def test_bad_number(self):
        for thing in [
            256 ** 63, 256 ** 63 + 1, 10 ** 399, -1, -192, -(256 ** 63), True, False, None, "5", "", (), (5,), [], [5],
            {}, {5: 5}, Tag(1, 1), WrongByte(5),
        ]:
            with self.subTest(thing=thing), self.assertRaises(BadNumber) as caught:
                number_code(thing)
            self.assertIs(caught.exception.number, thing)

    def test_bad_number_is_which_errors(self):
        with self.assertRaises(BadNumber) as caught:
            number_code(-1)
        self.assertIsInstance(caught.exception, ShortestBytesError)
        self.assertIsInstance(caught.exception, ValueError)
        self.assertNotIsInstance(caught.exception, BadValue)

    def test_by_name(self):
        self.assertEqual(number_code(number=300), [193, 1, 44])


class Order(unittest.TestCase):
    def test_codes_compare_as_numbers_do(self):
        numbers = edges()
        codes = [number_code(number) for number in numbers]
        self.assertEqual(codes, sorted(codes))
        self.assertEqual(len({tuple(code) for code in codes}), len(numbers))

    def test_no_code_is_the_beginning_of_another_one(self):
        codes = [tuple(number_code(number)) for number in [*range(70000), *edges()[10:]]]
        known = set(codes)
        for code in known:
            for many in range(len(code)):
                self.assertNotIn(code[:many], known)


class NumberAt(unittest.TestCase):
    def test_examples(self):
        self.assertEqual(number_at([7, 193, 1, 44, 9], 1), (300, 4))
        with self.assertRaises(WrongByte) as caught:
            number_at([192, 5])
        self.assertEqual(caught.exception.at, 1)

    def test_reads_what_was_written(self):
        for number in edges():
            code = number_code(number)
            for before in ([], [9], [None, 300, "a"]):
                for behind in ([], [0], [255], [None, "a"]):
                    for kind in (list, tuple, Row):
                        data = kind(before + code + behind)
                        end = len(before) + len(code)
                        self.assertEqual(number_at(data, len(before)), (number, end))

    def test_in_a_document(self):
        self.assertEqual(number_at(Document.of(300), 1), (300, 4))
        self.assertEqual(number_at(data=Document.of(["a", 5]), at=3), (1, 4))
        for number in edges():
            document = Document.of([number, number])
            size = len(number_code(number))
            self.assertEqual(number_at(document, 3), (number, 3 + size))
            self.assertEqual(number_at(document, 4 + size), (number, 4 + 2 * size))
        for value in (-1, (1, 255), {1: [5]}):
            document = Document.of(value)
            for at in range(len(document) + 1):
                self.assertEqual(self.told(document, at), self.told(list(document), at))
        self.assertEqual(self.told(Document.of((192, 5)), 2), ("wrong", 3))
        self.assertEqual(self.told(Document.of((255, 193)), 2), ("wrong", 2))
        self.assertEqual(self.told(Document.of((255, 193)), 3), ("unfinished", 4))
        self.assertEqual(self.told(Document.of(5), 2), ("unfinished", 2))

    def test_kinds_of_the_result(self):
        for data in ([5], [193, 1, 44]):
            found = number_at(data)
            self.assertIs(type(found), tuple)
            self.assertEqual([type(entry) for entry in found], [int, int])

    def test_by_name(self):
        self.assertEqual(number_at(at=1, data=[7, 193, 1, 44, 9]), (300, 4))
        self.assertEqual(number_at([5], at=0), (5, 1))

    def test_stays_as_it_was(self):
        for data in ([7, 193, 1, 44, 9], [7, 192, 5], [7, 193], [7, None]):
            before = list(data)
            try:
                number_at(data, 1)
            except ShortestBytesError:
                pass
            self.assertEqual(data, before)

    def wrong(self, data, at, index):
        for kind in (list, tuple, Row):
            with self.subTest(data=data, at=at, kind=kind), self.assertRaises(WrongByte) as caught:
                number_at(kind(data), at)
            self.assertEqual(caught.exception.at, index)

    def test_wrong_first_byte(self):
        self.wrong([255], 0, 0)
        self.wrong([255, 1], 0, 0)
        self.wrong([5, 255, 1], 1, 1)
        for entry in NO_BYTES:
            self.wrong([entry], 0, 0)
            self.wrong([entry, 5], 0, 0)
            self.wrong([5, entry, 5], 1, 1)

    def test_needlessly_long(self):
        for byte in range(192):
            self.wrong([192, byte], 0, 1)
        for first in range(193, 255):
            self.wrong([first, 0], 0, 1)
            self.wrong([9, 9, first, 0] + [5] * 70, 2, 3)

    def test_edges_of_the_second_byte(self):
        self.assertEqual(number_at([192, 192]), (192, 2))
        self.assertEqual(number_at([193, 1, 0]), (256, 3))
        self.assertEqual(number_at([194, 1, 0, 0]), (65536, 4))
        self.assertEqual(number_at([254, 1] + [0] * 62), (256 ** 62, 64))

    def test_wrong_entry_in_a_long_code(self):
        for entry in NO_BYTES:
            self.wrong([192, entry], 0, 1)
            self.wrong([193, entry, 5], 0, 1)
            self.wrong([193, 5, entry], 0, 2)
            self.wrong([8, 254] + [5] * 62 + [entry], 1, 64)
            # An entry that is wrong comes before the end of data that is short.
            self.wrong([254, 5, entry], 0, 2)

    def test_the_first_wrong_entry_is_told(self):
        self.wrong([193, 0, None], 0, 1)
        self.wrong([None, 255, None], 1, 1)

    def test_unfinished(self):
        for data, at in [
            ([], 0), ([5], 1), ([192], 0), ([193], 0), ([193, 1], 0), ([9, 9, 193, 255], 2), ([254, 1], 0),
            ([254] + [255] * 62, 0), ([None], 1), ([255], 1),
        ]:
            for kind in (list, tuple, Row):
                with self.subTest(data=data, at=at, kind=kind), self.assertRaises(Unfinished) as caught:
                    number_at(kind(data), at)
                self.assertEqual(caught.exception.at, len(data))

    def test_all_short_data(self):
        alive = {}
        for number in range(65536):
            code = tuple(number_code(number))
            for many in range(len(code)):
                alive[code[:many]] = None
            alive[code] = number
        entries = [0, 1, 5, 191, 192, 193, 254, 256, True]
        for many in range(4):
            for row in itertools.product(entries, repeat=many):
                if not row or row[0] < 194 and row[0] is not True:
                    self.assertEqual(self.told(row), self.expected(row, alive))

    def told(self, row, at=0):
        try:
            return number_at(row, at)
        except WrongByte as error:
            return ("wrong", error.at)
        except Unfinished as error:
            return ("unfinished", error.at)

    def expected(self, row, alive):
        for many in range(len(row) + 1):
            begun = row[:many]
            # A tuple with True equals one with 1, so the kind is asked too.
            if begun not in alive or begun and type(begun[-1]) is not int:
                return ("wrong", many - 1)
            if alive[begun] is not None:
                return (alive[begun], many)
        return ("unfinished", len(row))


if __name__ == "__main__":
    unittest.main()
