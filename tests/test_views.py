"""Skipping by heads alone, and views of items in data."""

import copy
import inspect
import itertools
import unittest

from test_document_read import NO_BYTES
from test_values import DOCUMENTS, in_tag, nested

from shortestbytes.counts import MOST, number_code
from shortestbytes.documents import Document
from shortestbytes.errors import BadPath, Unfinished, WrongByte
from shortestbytes.values import Tag
from shortestbytes.views import View, end_of

VALUES = [value for value, row in DOCUMENTS if len(row) < 70] + [
    [(), [], {}, Tag(5, {1: [2]}), "ab", (1, 2)],
    {-300: [1, 2], -1: {}, 0: {"a": (7,), "b": [None]}, 300: Tag(300, "x"), (): 1, (5, 6): [], "": 2, "~~": {"k": {1: 1}}},
    Tag(1, Tag(192, [[[5]], {(): "c"}])),
    [[None] * 3, {number: number for number in range(5)}],
]
ANYTHING = [None, True, False, 256, -1, "a", "", (), [], [1], {}, {1: 2}, 10 ** 399, Tag(1, 1), Document.of(5), WrongByte(1)]


def outcome(function, *arguments):
    """What a function gives, or the word and the field of the error."""
    try:
        return function(*arguments)
    except WrongByte as error:
        return ("wrong", error.at)
    except Unfinished as error:
        return ("unfinished", error.at)
    except BadPath as error:
        return ("path", error.at)


def steps_of(value):
    """The steps to the parts of a value, with the parts, in the order of the document."""
    if isinstance(value, list):
        return list(enumerate(value))
    if isinstance(value, dict):
        return [(key, value[key]) for key in sorted(value, key=lambda key: Document.of(key).data)]
    return [(0, value.content())] if isinstance(value, Tag) else []


def size_of(value):
    return 1 if isinstance(value, Tag) else len(value) if isinstance(value, (list, dict, str, tuple)) else 0


def places(value, start=0, path=()):
    """For each part of a value: the path, where its document begins in that of the value, and the part."""
    yield path, start, value
    at = start + len(Document.of(value)) - sum(
        len(Document.of(part)) + (len(Document.of(step)) if isinstance(value, dict) else 0) for step, part in steps_of(value))
    for step, part in steps_of(value):
        at += len(Document.of(step)) if isinstance(value, dict) else 0
        yield from places(part, at, path + (step,))
        at += len(Document.of(part))


class Skipping(unittest.TestCase):
    def test_examples(self):
        self.assertEqual(end_of([5, 5, 7, 2, None, None, 1], 2), 6)
        self.assertEqual(outcome(end_of, [8, 1, 11]), ("wrong", 2))

    def test_at_each_item(self):
        for value in VALUES:
            document = Document.of(value)
            for before, behind in [([], []), ([0, None], [0]), ([1] * 5, [255, "a"])]:
                data = before + list(document) + behind
                for path, start, part in places(value, len(before)):
                    self.assertEqual(end_of(data, start), start + len(Document.of(part)))
                    self.assertEqual(end_of(tuple(data), start), start + len(Document.of(part)))
            self.assertEqual(end_of(document), len(document))
            for start, _, is_key, word, worth in document.events():
                if is_key:
                    self.assertEqual(end_of(document, start), start + len(Document.of(worth)))

    def test_each_beginning_is_unfinished(self):
        for value in VALUES:
            row = list(Document.of(value))
            for size in range(len(row)):
                self.assertEqual(outcome(end_of, row[:size]), ("unfinished", size))
                self.assertEqual(outcome(end_of, [0, 0] + row[:size], 2), ("unfinished", size + 2))
        self.assertEqual(outcome(end_of, []), ("unfinished", 0))
        self.assertEqual(outcome(end_of, [1, 1], 2), ("unfinished", 2))

    def test_contents_are_anything(self):
        for entry in ANYTHING:
            for kind in (6, 7):
                self.assertEqual(end_of([kind, 2, entry, entry, 1]), 4)
                self.assertEqual(end_of([8, 2, kind, 1, entry, 1]), 6)
                self.assertEqual(end_of([9, 1, kind, 1, entry, kind, 1, entry]), 8)
                self.assertEqual(outcome(end_of, [kind, 2, entry]), ("unfinished", 3))
                self.assertEqual(outcome(end_of, [8, 2, kind, 1, entry, entry]), ("wrong", 5))
        self.assertEqual(end_of([7, 3, 37, 128, 300]), 5)

    def test_keys_in_any_order(self):
        self.assertEqual(end_of([9, 3, 7, 1, 98, 1, 5, 3, 1, 5, 3, 1]), 12)
        self.assertEqual(end_of([9, 2, 5, 254] + [255] * 63 + [1, 4, 255, 2]), 71)

    def test_each_entry_of_heads_wrong(self):
        for value in VALUES:
            document = Document.of(value)
            data = list(document)
            kinds, contents = {}, set()
            for start, _, is_key, word, worth in document.events():
                kinds[start] = is_key
                if word in ("octets", "text"):
                    end = start + len(Document.of(worth))
                    contents.update(range(end - len(worth), end))
            for at in range(len(data)):
                for entry in NO_BYTES:
                    changed = data[:at] + [entry] + data[at + 1:]
                    self.assertEqual(outcome(end_of, changed), len(data) if at in contents else ("wrong", at))
            for at in kinds:
                for byte in [0, *range(11, 256, 7), 255] + ([1, 2, 3, 8, 9, 10] if kinds[at] else []):
                    self.assertEqual(outcome(end_of, data[:at] + [byte] + data[at + 1:]), ("wrong", at))

    def test_codes(self):
        for kind in range(5, 11):
            self.assertEqual(outcome(end_of, [kind, 255, 0]), ("wrong", 1))
            self.assertEqual(outcome(end_of, [kind, 192, 191]), ("wrong", 2))
            self.assertEqual(outcome(end_of, [kind, 193, 0]), ("wrong", 2))
            self.assertEqual(outcome(end_of, [kind, 194, 1, 0, None]), ("wrong", 4))
            self.assertEqual(outcome(end_of, [kind, 254] + [255] * 63), 65 if kind == 5 else ("unfinished", 65))
        self.assertEqual(outcome(end_of, [4, 0, 0]), ("wrong", 1))
        self.assertEqual(outcome(end_of, [4, 63, 64]), ("wrong", 2))
        self.assertEqual(outcome(end_of, [4, 62, 255, 0]), ("wrong", 2))
        self.assertEqual(end_of([4, 63, 63]), 3)

    def test_levels_are_counted_from_the_item(self):
        for head in ([8, 1], [9, 1, 5, 1], [10, 5], [8, 2, 1]):
            for kind in (8, 9, 10):
                data = head * 24 + [kind, 0]
                self.assertEqual(outcome(end_of, data), ("wrong", 24 * len(head)))
                self.assertEqual(outcome(end_of, head + data), ("wrong", 24 * len(head)))
                self.assertEqual(outcome(end_of, head * 23 + [kind, 0, 1]), len(head) * 23 + (3 if kind == 10 else 2))
            self.assertEqual(end_of(head * 24 + [6, 1, None]), len(head) * 24 + 3)
            self.assertEqual(end_of(head * 25 + [1], len(head)), len(head) * 25 + 1)
        self.assertEqual(outcome(end_of, [8, 2, 6, 1, None] + [8, 1] * 24), ("wrong", 5 + 46))

    def test_great_numbers(self):
        greatest = [254] + [255] * 63
        self.assertEqual(outcome(end_of, [6] + greatest + [1] * 50), ("unfinished", 115))
        self.assertEqual(outcome(end_of, [8] + greatest + [1] * 50), ("unfinished", 115))
        self.assertEqual(outcome(end_of, [9] + greatest + [5, 1, 1] * 10 + [3]), ("wrong", 95))

    def test_by_name_and_by_position(self):
        self.assertEqual(end_of(data=[1, 5, 3], at=1), 3)
        self.assertEqual(end_of([5, 3]), 2)

    def test_data_stays_as_it_was(self):
        data = [8, 1, 6, 1, [5]]
        end_of(data)
        self.assertEqual(data, [8, 1, 6, 1, [5]])


class Heads(unittest.TestCase):
    def test_each_item(self):
        for value in VALUES:
            data = [0, None] + list(Document.of(value)) + [0]
            for path, start, part in places(value, 2):
                view = View(data, start)
                self.assertEqual((view.start, view.kind, view.size, len(view)),
                                 (start, Document.of(part).kind, size_of(part), size_of(part)))
                self.assertEqual([name in vars(view) for name in ("start", "kind", "size")], [True] * 3)
                self.assertEqual([type(view.start), type(view.size), type(view.kind)], [int, int, str])

    def test_great_sizes(self):
        self.assertEqual(View([8, 254] + [255] * 63).size, MOST)
        self.assertEqual(len(View([7, 193, 31, 64])), 8000)
        for kind in (6, 7, 8, 9):
            for size in (0, 1, 191, 192, 7999, 8000, 12000):
                self.assertEqual(len(View([kind] + number_code(size))), size)
        self.assertEqual(View([10, 191, 1]).size, 1)

    def test_only_the_head_is_looked_at(self):
        for row, size in [([8, 3], 3), ([9, 2], 2), ([6, 9], 9), ([7, 9], 9), ([10, 9], 1), ([5, 3], 0), ([4, 255], 0)]:
            for behind in ([], [None], [255, 300]):
                self.assertEqual(View(row + behind).size, size)
        self.assertEqual(View([1, None], 0).kind, "none")

    def test_wrong_heads(self):
        for row, expected in [
            ([0], ("wrong", 0)), ([11], ("wrong", 0)), ([None], ("wrong", 0)), ([True], ("wrong", 0)), ([], ("unfinished", 0)),
            ([8], ("unfinished", 1)), ([8, 255], ("wrong", 1)), ([8, 192], ("unfinished", 2)), ([8, 192, 191], ("wrong", 2)),
            ([5, 193, 1], ("unfinished", 3)), ([5, 193, 0], ("wrong", 2)), ([4, 0], ("wrong", 1)), ([4, 63, 64], ("wrong", 2)),
            ([10, None], ("wrong", 1)), ([6, "a"], ("wrong", 1)), ([7, True], ("wrong", 1)),
        ]:
            self.assertEqual(outcome(View, row), expected)
            self.assertEqual(outcome(View, [1, 1] + row, 2), (expected[0], expected[1] + 2))

    def test_no_level_is_too_deep(self):
        self.assertEqual(View([8, 1] * 30, 58).kind, "list")

    def test_by_name(self):
        self.assertEqual(View(data=[1, 2], at=1).kind, "false")

    def test_documents(self):
        view = View(Document.of([1, 2]))
        self.assertEqual(view.part(1).value(), 2)
        self.assertEqual(view.piece(), [8, 2, 5, 1, 5, 2])


class Pieces(unittest.TestCase):
    def test_each_item(self):
        for value in VALUES:
            data = [0] + list(Document.of(value)) + [None]
            for path, start, part in places(value, 1):
                view = View(data, start)
                self.assertEqual(view.end(), start + len(Document.of(part)))
                self.assertEqual(view.piece(), list(Document.of(part)))
                self.assertIs(type(view.piece()), list)

    def test_as_the_entries_stand(self):
        for entry in ANYTHING:
            found = View([8, 2, 7, 1, entry, 1, 5]).piece()
            self.assertEqual(found, [8, 2, 7, 1, entry, 1])
            self.assertIs(type(found[4]), type(entry))

    def test_errors(self):
        for row, expected in [([8, 2, 1], ("unfinished", 3)), ([7, 2, 97], ("unfinished", 3)), ([8, 1, 11], ("wrong", 2)),
                              ([8, 1] * 25, ("wrong", 48)), ([9, 1, 8], ("wrong", 2))]:
            view = View([1] + row, 1)
            self.assertEqual(outcome(view.piece), (expected[0], expected[1] + 1))
            self.assertEqual(outcome(view.end), (expected[0], expected[1] + 1))

    def test_data_is_copied(self):
        inner = [1, {2: [3]}]
        data = [8, 1, 6, 3, inner, (inner,), {"a": inner}]
        whole = copy.deepcopy(data)
        view = View(data)
        part = view.part(0)
        inner[1][2].append(4)
        inner.append(5)
        data[4] = None
        del data[5:]
        self.assertEqual(view.piece(), whole)
        self.assertEqual(part.piece(), whole[2:])
        found = view.piece()
        found[4][1][2].clear()
        found[5][0].append(6)
        found[6]["a"].clear()
        self.assertEqual(view.piece(), whole)
        self.assertEqual(View(whole, 2).piece(), whole[2:])

    def test_dicts_in_data_are_told_with_ascending_keys(self):
        self.assertEqual(list(View([6, 1, {"b": 1, 5: 2, (): 3}]).piece()[2]), [5, (), "b"])
        self.assertEqual(View([6, 1, {None: 1, True: 2}]).piece()[2], {None: 1, True: 2})


class Parts(unittest.TestCase):
    def test_every_path(self):
        for value in VALUES:
            row = list(Document.of(value))
            whole = View([1] + row + [0], 1)
            for path, start, part in places(value, 1):
                found = whole.part(*path)
                self.assertIs(type(found), View)
                self.assertEqual((found.start, found.kind, found.size), (start, Document.of(part).kind, size_of(part)))
                self.assertEqual(found.value(), part)
                step_by_step = whole
                for step in path:
                    step_by_step = step_by_step.part(step)
                self.assertEqual(step_by_step.start, start)

    def test_data_that_ends_behind_the_head(self):
        for value in VALUES:
            row = list(Document.of(value))
            for path, start, part in places(value):
                end = start + len(Document.of(part)) - sum(len(Document.of(inner)) for _, inner in steps_of(part))
                if isinstance(part, dict):
                    end -= sum(len(Document.of(key)) for key in part)
                if isinstance(part, (str, tuple)):
                    end -= len(part)
                for behind in ([], [None] * 5, [255, 11, 0]):
                    data = row[:end] + behind
                    self.assertEqual(View(data).part(*path).start, start)
                for size in range(2, end):
                    if outcome(View, row[:size]) != ("unfinished", size):
                        self.assertEqual(outcome(View(row[:size]).part, *path), ("unfinished", size))

    def test_no_steps(self):
        view = View([1, 8, 1, 5, 7], 1)
        same = view.part()
        self.assertEqual((same.start, same.kind, same.size, same.value()), (1, "list", 1, [7]))
        self.assertEqual(View([8, 5]).part().size, 5)

    def test_examples(self):
        self.assertEqual(View([8, 3, 7, 1, None, 5, 9, 1]).part(1).value(), 9)
        self.assertEqual(outcome(View([8, 1, 1]).part, 0, 0), ("path", 1))
        self.assertEqual(outcome(View([8, 2, 1]).part, 1), ("unfinished", 3))

    def test_steps_that_lead_nowhere(self):
        no_indexes = [True, False, -1, 2, 3, 256 ** 63, 10 ** 399, None, "0", "", (), (0,), [], [0], {}, Document.of(0), Tag(0, 0)]
        no_keys = [True, False, None, [], [1], {}, {1: 2}, "%", (256,), (True,), 256 ** 63, Tag(1, 1), Document.of(1)]
        for head, steps in [([8, 2], no_indexes), ([10, 5], [1] + no_indexes), ([9, 2], no_keys)]:
            for step in steps:
                # Found by the head alone: data ends there, or what stands behind is not looked at.
                for behind in ([], [0], [None]):
                    self.assertEqual(outcome(View(head + behind).part, step), ("path", 0))
                    self.assertEqual(outcome(View([8, 1] + head + behind).part, 0, step, 5), ("path", 1))
        for row in ([1], [2], [3], [4, 255], [5, 1], [6, 3], [7, 3], [8, 0], [9, 0]):
            for step in (0, 1, "a", (), None, True):
                self.assertEqual(outcome(View(row).part, step), ("path", 0))
        self.assertEqual(outcome(View([8, 1, 8, 1, 1]).part, 0, 0, 0, 1), ("path", 2))

    def test_keys_that_are_not_there(self):
        value = {-5: 1, 0: [2], 300: 3, (1,): 4, "b": {1: 5}, "aa": 6}
        row = Document.of(value).data
        for key in (-6, -4, -1, 1, 299, 301, (), (0,), (2,), (0, 0), "", "a", "c", "ab", "aaa"):
            self.assertEqual(outcome(View(row).part, key), ("path", 0))
        self.assertEqual(outcome(View(row).part, "b", 2), ("path", 1))
        self.assertEqual(outcome(View(row).part, "b", 1, 0), ("path", 2))

    def test_no_more_is_looked_at_than_the_document_tells(self):
        # The first key that is greater ends the search; its value need not be there.
        self.assertEqual(outcome(View([9, 5, 5, 2]).part, 1), ("path", 0))
        self.assertEqual(outcome(View([9, 5, 5, 2, 1, 5, 4]).part, 3), ("path", 0))
        # A key is looked at whole.
        self.assertEqual(outcome(View([9, 5, 7, 2, 98]).part, "aa"), ("unfinished", 5))
        self.assertEqual(outcome(View([9, 5, 5]).part, -1), ("unfinished", 3))
        self.assertEqual(outcome(View([9, 5, 5, 193, 1]).part, 1), ("unfinished", 5))
        # The value behind the last key is not skipped.
        self.assertEqual(outcome(View([9, 1, 5, 2]).part, 3), ("path", 0))
        self.assertEqual(outcome(View([9, 2, 5, 2, 1, 5, 3]).part, 4), ("path", 0))
        self.assertEqual(outcome(View([9, 2, 5, 2]).part, 3), ("unfinished", 4))
        self.assertEqual(outcome(View([9, 2, 5, 2, 7, 3, None]).part, 3), ("unfinished", 7))
        # The head of the part must be there.
        self.assertEqual(outcome(View([9, 1, 5, 2]).part, 2), ("unfinished", 4))
        self.assertEqual(outcome(View([9, 1, 5, 2, 8]).part, 2), ("unfinished", 5))
        self.assertEqual(outcome(View([10, 5]).part, 0), ("unfinished", 2))
        # The first step that fails decides.
        self.assertEqual(outcome(View([8, 2, 1]).part, 1, None), ("unfinished", 3))
        self.assertEqual(outcome(View([8, 2, 1]).part, 2, 0), ("path", 0))

    def test_contents_before_the_part(self):
        for entry in ANYTHING:
            self.assertEqual(View([8, 3, 7, 1, entry, 6, 2, entry, entry, 5, 9]).part(2).value(), 9)
            data = [9, 2, 5, 1, 8, 1, 7, 2, entry, entry, 7, 1, 98, 5, 9]
            self.assertEqual(View(data).part("b").value(), 9)
            self.assertEqual(View(data).part(1, 0).piece(), [7, 2, entry, entry])

    def test_many_parts(self):
        value = [{number: [number] for number in range(300)}] * 4
        view = View(Document.of(value))
        for index, key in itertools.product((0, 3), (0, 191, 192, 299)):
            self.assertEqual(view.part(index, key, 0).value(), key)


class Children(unittest.TestCase):
    def test_example(self):
        children = list(View([9, 1, 5, 1, 7, 1, 97]).children())
        self.assertEqual([children[0][0], children[0][1].kind, children[0][1].start], [1, "text", 4])

    def test_each_item(self):
        for value in VALUES:
            data = [0] + list(Document.of(value)) + [None]
            starts = {path: start for path, start, _ in places(value, 1)}
            for path, start, part in places(value, 1):
                found = View(data, start).children()
                self.assertTrue(inspect.isgenerator(found))
                children = list(found)
                self.assertEqual({type(child) for child in children} - {tuple}, set())
                self.assertEqual([step for step, _ in children], [step for step, _ in steps_of(part)])
                self.assertEqual([type(step) for step, _ in children], [type(step) for step, _ in steps_of(part)])
                self.assertEqual([view.start for _, view in children], [starts[path + (step,)] for step, _ in children])
                self.assertEqual([view.value() for _, view in children], [inner for _, inner in steps_of(part)])

    def test_anew_at_each_call(self):
        view = View([8, 2, 1, 2])
        self.assertEqual([child.kind for _, child in view.children()], ["none", "false"])
        self.assertEqual([child.kind for _, child in view.children()], ["none", "false"])

    def asked(self, data):
        """The starts of the parts that are told, and what ends them."""
        found = []
        children = View(data).children()
        while True:
            try:
                found.append(next(children)[1].start)
            except StopIteration:
                return found, "end"
            except Unfinished as error:
                return found, error.at

    def test_told_as_they_are_asked_for(self):
        self.assertEqual(self.asked([8, 3, 1, 2]), ([2, 3], 4))
        self.assertEqual(self.asked([8, 3]), ([], 2))
        self.assertEqual(self.asked([8, 2, 1, 8]), ([2], 4))
        # The end of the last part is not looked for.
        self.assertEqual(self.asked([8, 2, 1, 8, 5]), ([2, 3], "end"))
        self.assertEqual(self.asked([8, 2, 7, 3, None]), ([2], 5))
        self.assertEqual(self.asked([8, 1, 7, 3, None]), ([2], "end"))
        self.assertEqual(self.asked([10, 5]), ([], 2))
        self.assertEqual(self.asked([10, 5, 8, 9]), ([2], "end"))
        self.assertEqual(self.asked([9, 2, 5, 1, 8, 9]), ([4], 6))
        self.assertEqual(self.asked([9, 2, 5, 1, 1, 5]), ([4], 6))
        self.assertEqual(self.asked([9, 2, 5, 1, 1, 5, 2]), ([4], 7))
        self.assertEqual(self.asked([9, 2, 5, 1, 1, 5, 2, 9, 3]), ([4, 7], "end"))
        self.assertEqual(self.asked([9, 2, 7, 2, 97]), ([], 5))
        self.assertEqual(self.asked([8, 0]), ([], "end"))
        self.assertEqual(self.asked([7, 3]), ([], "end"))

    def test_what_stands_behind_does_not_matter(self):
        children = View([8, 3, 1, 7, 2, None, None, 11, 12]).children()
        self.assertEqual([next(children)[1].start, next(children)[1].start], [2, 3])


class Values(unittest.TestCase):
    def test_each_item(self):
        for value in VALUES:
            data = [0] + list(Document.of(value)) + [None, 300]
            for path, start, part in places(value, 1):
                found = View(data, start).value()
                self.assertEqual(found, part)
                self.assertIs(type(found), type(part))

    def test_errors(self):
        for row, expected in [
            ([8, 2, 1], ("unfinished", 3)), ([7, 2, 97], ("unfinished", 3)), ([8, 1, 11], ("wrong", 2)), ([7, 1, 37], ("wrong", 2)),
            ([6, 2, 1, None], ("wrong", 3)), ([9, 2, 5, 1, 1, 5, 1, 1], ("wrong", 6)), ([9, 2, 5, 1, 1, 4], ("wrong", 5)),
            ([8, 2, 1, True], ("wrong", 3)), ([8, 1] * 25, ("wrong", 48)),
        ]:
            for before in ([], [1], [8, 1, None]):
                view = View(before + row, len(before))
                self.assertEqual(outcome(view.value), (expected[0], expected[1] + len(before)))

    def test_levels_are_counted_from_the_item(self):
        data = [8, 1] * 30 + [8, 0]
        self.assertEqual(View(data, 14).value(), nested(23, lambda inner: [inner], []))
        self.assertEqual(outcome(View(data, 12).value), ("wrong", 60))

    def test_told_anew(self):
        view = View([8, 1, 9, 1, 5, 1, 8, 0])
        found = view.value()
        found[0][1].append(3)
        self.assertEqual(view.value(), [{1: []}])
        self.assertEqual(list(View(Document.of({"b": 1, 2: 3})).value()), [2, "b"])
        self.assertEqual(View(Document.of(nested(24, in_tag))).part(*[0] * 20).value(), nested(4, in_tag))

    def test_contents_that_are_anything_are_wrong_here(self):
        for entry in ANYTHING:
            self.assertEqual(outcome(View([8, 2, 1, 6, 2, 5, entry]).value), ("wrong", 6))


if __name__ == "__main__":
    unittest.main()
