"""Drafts: deeds with their splices, runs, and what is taken back."""

import copy
import random
import unittest

from test_values import BAD_THINGS, DOCUMENTS, in_tag, nested
from test_views import places, steps_of

from shortestbytes.counts import number_code
from shortestbytes.documents import Document
from shortestbytes.drafts import Draft
from shortestbytes.errors import BadDeed, BadPath, BadValue, TooDeep, WrongByte
from shortestbytes.shapes import Shape
from shortestbytes.values import Tag

VALUES = [value for value, row in DOCUMENTS if len(row) < 70] + [
    [1, [2, [], "a"], {1: [3], "b": Tag(5, [4])}],
    {-300: [1, 2], 0: {"a": (7,), "bb": [None]}, 300: Tag(300, {1: 2}), (): 1, (5, 6): [], "": 2, "~~": {}},
    Tag(1, Tag(192, [[[5]], {(): "c"}])),
]
NEW = [None, True, -1, 300, (), "abc", [], [[1]], {}, {2: 1, 1: 2}, Tag(0, [])]
NO_STEPS = [True, False, -1, 10 ** 399, None, "%", (256,), [], [0], {}, Tag(0, 0), Document.of(0), WrongByte(1), 256 ** 63]
ERRORS = {BadPath: "at", BadValue: "path", TooDeep: "reached", BadDeed: "at"}


def row_of(value):
    return Document.of(value).data


def applied(row, splices):
    """A row after the splices, from the last one to the first."""
    row = list(row)
    for start, end, put in reversed(splices):
        row[start:end] = put
    return tuple(row)


def changed(value, path, change):
    """The value with the nest at a path changed: change is given a copy of it, and gives the new one."""
    if not path:
        return change(copy.deepcopy(value))
    step, rest = path[0], path[1:]
    if isinstance(value, Tag):
        return Tag(value.number, changed(value.content(), rest, change))
    value = copy.deepcopy(value)
    value[step] = changed(value[step], rest, change)
    return value


def with_item(nest, step, item):
    if isinstance(nest, Tag):
        return Tag(nest.number, item)
    nest[step] = item
    return nest


def with_more(nest, step, item):
    nest.insert(step, item)
    return nest


def without(nest, step):
    del nest[step]
    return nest


class Deeds(unittest.TestCase):
    def check(self, value, deed, new, splices):
        """A deed gives these splices and this value, and can be taken back."""
        for path in (list(deed[1]), tuple(deed[1])):
            draft = Draft(Document.of(value))
            found = getattr(draft, deed[0])(path, *deed[2:])
            self.assertEqual(found, splices)
            self.assertEqual((type(found), {type(one) for one in found}), (list, {tuple}))
            self.assertEqual({type(put) for _, _, put in found}, {tuple})
            self.assertEqual(applied(row_of(value), found), row_of(new))
            self.assertEqual(draft.document(), Document.of(new))
            self.assertEqual(draft.document().value(), new)
            self.assertIs(draft.undo(), True)
            self.assertEqual(draft.document(), Document.of(value))
            self.assertIs(draft.undo(), False)

    def test_examples(self):
        self.assertEqual(Draft(Document.of([1, 2])).insert((1,), "a"), [(1, 2, (3,)), (4, 4, (7, 1, 97))])
        self.assertEqual(Draft(Document.of({1: "a"})).put([2], None), [(1, 2, (2,)), (7, 7, (5, 2, 1))])
        self.assertEqual(Draft(Document.of([1, 2])).remove([0]), [(1, 2, (1,)), (2, 4, ())])

    def test_put_at_every_place(self):
        for value in VALUES:
            for path, start, part in places(value):
                for item in NEW + [part]:
                    new = changed(value, path[:-1], lambda nest: with_item(nest, path[-1], item)) if path else item
                    self.check(value, ("put", path, item), new, [(start, start + len(row_of(part)), row_of(item))])

    def test_put_of_new_pairs(self):
        keys = [-(256 ** 63), -301, -299, -1, 1, 299, 301, 256 ** 63 - 1, (0,), (5, 5), (5, 7), (0, 0, 0), "\t", "~", "~}", "~~~"]
        for value in VALUES:
            for path, start, part in places(value):
                for key in keys if isinstance(part, dict) else []:
                    for item in (None, [[]], part):
                        if key not in part:
                            self.new_pair(value, path, start, part, key, item)

    def new_pair(self, value, path, start, part, key, item):
        new = changed(value, path, lambda nest: with_item(nest, key, item))
        less = [one for one in part if row_of(one) < row_of(key)]
        at = start + 2 + sum(len(row_of(one)) + len(row_of(part[one])) for one in less)
        splices = [(start + 1, start + 2, (len(part) + 1,)), (at, at, row_of(key) + row_of(item))]
        self.check(value, ("put", path + (key,), item), new, splices)

    def test_insert_at_every_place(self):
        for value in VALUES:
            for path, start, part in places(value):
                for step in range(len(part) + 1) if isinstance(part, list) else []:
                    for item in NEW:
                        new = changed(value, path, lambda nest: with_more(nest, step, item))
                        at = start + 2 + sum(len(row_of(one)) for one in part[:step])
                        splices = [(start + 1, start + 2, (len(part) + 1,)), (at, at, row_of(item))]
                        self.check(value, ("insert", path + (step,), item), new, splices)

    def test_remove_at_every_place(self):
        for value in VALUES:
            for path, start, part in places(value):
                at = start + 2
                for step, item in steps_of(part) if not isinstance(part, Tag) else []:
                    new = changed(value, path, lambda nest: without(nest, step))
                    end = at + len(row_of(item)) + (len(row_of(step)) if isinstance(part, dict) else 0)
                    self.check(value, ("remove", path + (step,)), new, [(start + 1, start + 2, (len(part) - 1,)), (at, end, ())])
                    at = end

    def test_codes_that_grow_and_shrink(self):
        for size in (190, 191, 192, 255, 256):
            code, more, less = (tuple(number_code(size + change)) for change in (0, 1, -1))
            items = [None] * size
            end = 1 + len(code)
            self.check(items, ("insert", (size,), True), items + [True], [(1, end, more), (end + size, end + size, (3,))])
            self.check(items, ("insert", (0,), True), [True] + items, [(1, end, more), (end, end, (3,))])
            self.check(items, ("remove", (5,)), items[1:], [(1, end, less), (end + 5, end + 6, ())])
            pairs = {number - 190: None for number in range(size)}
            sizes = [len(row_of(key)) + 1 for key in pairs]
            self.check([pairs], ("remove", (0, -190)), [{key: None for key in list(pairs)[1:]}],
                       [(3, 3 + len(code), less), (3 + len(code), 3 + len(code) + sizes[0], ())])
            at = 3 + len(code) + sum(sizes)
            self.check([pairs], ("put", (0, 1000), 5), [{**pairs, 1000: 5}], [(3, 3 + len(code), more), (at, at, row_of(1000) + (5, 5))])

    def test_documents_stand_for_their_values(self):
        draft = Draft(Document.of([1]))
        self.assertEqual(draft.put((0,), Document.of([2, {}])), [(2, 4, (8, 2, 5, 2, 9, 0))])
        self.assertEqual(draft.insert([0, 1], Document.of("a")), [(3, 4, (3,)), (6, 6, (7, 1, 97))])
        self.assertEqual(draft.put([0, 2, 5], Document.of(Tag(1, 1))), [(10, 11, (1,)), (11, 11, (5, 5, 10, 1, 5, 1))])
        self.assertEqual(draft.document().value(), [[2, "a", {5: Tag(1, 1)}]])
        draft.put([], Document.of(None))
        self.assertEqual(draft.document(), Document.of(None))

    def test_many_deeds_one_after_another(self):
        chance = random.Random(2)
        value = [1, [2, {1: 2}], {"a": [], 5: Tag(3, [4])}]
        for _ in range(20):
            draft, now = Draft(Document.of(value)), value
            for _ in range(60):
                path, _, part = chance.choice(list(places(now)))
                item, nest = chance.choice(NEW), part
                word = chance.choice(["put", "insert", "remove"])
                steps = [step for step, _ in steps_of(nest)]
                if word == "put" and isinstance(nest, (list, dict, Tag)) and steps:
                    step = chance.choice(steps + ([7, "b", ()] if isinstance(nest, dict) else []))
                    now, splices = changed(now, path, lambda inner: with_item(inner, step, item)), draft.put(path + (step,), item)
                elif word == "insert" and isinstance(nest, list):
                    step = chance.randint(0, len(nest))
                    now, splices = changed(now, path, lambda inner: with_more(inner, step, item)), draft.insert(path + (step,), item)
                elif word == "remove" and isinstance(nest, (list, dict)) and steps:
                    step = chance.choice(steps)
                    now, splices = changed(now, path, lambda inner: without(inner, step)), draft.remove(path + (step,))
                self.assertEqual(draft.document(), Document.of(now))
            while draft.undo():
                pass
            self.assertEqual(draft.document(), Document.of(value))

    def test_by_name_and_by_position(self):
        draft = Draft(document=Document.of([1]))
        self.assertEqual(draft.put(path=(0,), value=2), [(2, 4, (5, 2))])
        self.assertEqual(draft.insert(path=[0], value=None), [(1, 2, (2,)), (2, 2, (1,))])
        self.assertEqual(draft.remove(path=[0]), [(1, 2, (1,)), (2, 3, ())])
        self.assertEqual(draft.run(deeds=[]), [])

    def test_arguments_are_copied_and_not_changed(self):
        item, path, value = [1, {2: [3]}], [0], [[]]
        document = Document.of(value)
        draft = Draft(document)
        splices = draft.put(path, item)
        item[1][2].append(4)
        path.append(5)
        splices.clear()
        self.assertEqual(draft.document().value(), [[1, {2: [3]}]])
        self.assertEqual((document.value(), value), ([[]], [[]]))
        deeds = [("put", (), [5])]
        draft.run(deeds).append(5)
        self.assertEqual((deeds, draft.document().value()), ([("put", (), [5])], [5]))

    def test_two_drafts_share_nothing(self):
        document = Document.of([1])
        one, two = Draft(document), Draft(document)
        one.put((), 5)
        self.assertEqual((two.document(), two.undo()), (Document.of([1]), False))
        self.assertEqual(document, Document.of([1]))


class Refused(unittest.TestCase):
    def refused(self, value, deed, error, told):
        """A deed raises an error and changes nothing, by itself and in a run."""
        draft = Draft(Document.of(0))
        draft.put((), value)
        for call in (lambda: getattr(draft, deed[0])(*deed[1:]), lambda: draft.run([deed]),
                     lambda: draft.run([("put", (), value), deed])):
            with self.assertRaises(error) as caught:
                call()
            self.assertEqual(getattr(caught.exception, ERRORS[error]), told)
            self.assertIs(type(getattr(caught.exception, ERRORS[error])), type(told))
            self.assertEqual(draft.document(), Document.of(value))
        self.assertEqual((draft.undo(), draft.undo()), (True, False))

    def all_refused(self, value, path, at, words=("put", "insert", "remove")):
        for word in words:
            for kind in (list, tuple):
                deed = (word, kind(path), 5) if word != "remove" else (word, kind(path))
                self.refused(value, deed, BadPath, at)

    def test_empty_paths(self):
        for value in (5, [1], {1: 2}, Tag(1, 1)):
            self.all_refused(value, (), -1, ("insert", "remove"))

    def test_steps_before_the_last_one(self):
        value = [1, {2: [3]}, Tag(4, [5])]
        for path, at in [((3, 0), 0), ((0, 0), 1), ((0, 0, 0), 1), ((1, 3, 0), 1), ((1, 2, 1, 0), 2), ((2, 1, 0), 1), ((2, 0, 0, 0), 3),
                         ((True, 2), 0), ((-1, 0), 0), ((1, None, 0), 1), ((1, 2, "0", 0), 2), ((2, False, 0), 1), ((1, [], 0), 1)]:
            self.all_refused(value, path, at)

    def test_last_steps_in_lists(self):
        for value, begin in [([1, 2], ()), ({5: [[1, 2]]}, (5, 0))]:
            for step in NO_STEPS:
                self.all_refused(value, begin + (step,), len(begin))
            self.all_refused(value, begin + (3,), len(begin))
            self.all_refused(value, begin + (2,), len(begin), ("put", "remove"))
        self.all_refused([], (0,), 0, ("put", "remove"))
        self.all_refused([], (1,), 0)

    def test_last_steps_in_maps(self):
        for value, begin in [({1: 2, "a": 3}, ()), ([{1: 2, "a": 3}], (0,))]:
            for step in [True, False, None, "%", (256,), (True,), 256 ** 63, 10 ** 399, [], [1], {}, Tag(1, 1), Document.of(1)]:
                self.all_refused(value, begin + (step,), len(begin))
            for step in (0, 2, "", "b", ()):
                self.all_refused(value, begin + (step,), len(begin), ("insert", "remove"))
            for step in (1, "a"):
                self.all_refused(value, begin + (step,), len(begin), ("insert",))

    def test_last_steps_in_tags(self):
        for value, begin in [(Tag(5, [1]), ()), ([Tag(5, 1)], (0,))]:
            self.all_refused(value, begin + (0,), len(begin), ("insert", "remove"))
            for step in NO_STEPS + [1, ""]:
                self.all_refused(value, begin + (step,), len(begin))

    def test_last_steps_in_leaves(self):
        for value in (None, True, 5, (1, 2), "ab"):
            for step in NO_STEPS + [0, 1, "a"]:
                self.all_refused(value, (step,), 0)
                self.all_refused([value], (0, step), 1)

    def test_bad_values(self):
        for thing in BAD_THINGS + [[1, Document.of(1)]]:
            path = (1,) if isinstance(thing, list) else ()
            for word, steps in [("put", (1,)), ("put", ()), ("insert", (2,)), ("put", (0, "new"))]:
                self.refused([{1: 2}, 3], (word, steps, thing), BadValue, path)
                self.refused([{1: 2}, 3], (word, steps, [0, {1: thing}]), BadValue, (1, 1) + path)

    def test_too_deep(self):
        for begin, nest in [((0,), [1]), (("a",), {"a": 1}), ((0,), Tag(1, 1)), ((0,) * 24, nested(24, in_tag)), ((1, 0), [1, [2]])]:
            for extra in (0, 1, 5):
                depth = 25 - len(begin) + extra
                if depth <= 24:
                    self.refused(nest, ("put", begin, nested(depth, in_tag)), TooDeep, 25 + extra)
                    self.refused(nest, ("put", begin, Document.of(nested(depth, in_tag))), TooDeep, 25 + extra)
                    if isinstance(nest, list):
                        self.refused(nest, ("insert", begin, nested(depth, in_tag)), TooDeep, 25 + extra)
                    if isinstance(nest, dict):
                        self.refused(nest, ("put", (5,), nested(depth, in_tag)), TooDeep, 25 + extra)
            fits = nested(24 - len(begin), in_tag)
            Draft(Document.of(nest)).put(begin, fits)
        draft = Draft(Document.of(nested(23, lambda inner: [inner], [])))
        self.assertEqual(draft.document().depth(), 24)
        draft.insert((0,) * 24, 5)
        with self.assertRaises(TooDeep) as caught:
            draft.insert((0,) * 24, [])
        self.assertEqual(caught.exception.reached, 25)

    def test_which_error_is_raised(self):
        self.refused([1], ("put", (1,), "%"), BadPath, 0)
        self.refused([1], ("insert", (), "%"), BadPath, -1)
        self.refused([1], ("put", (0,), [nested(24, in_tag)]), BadValue, (0,) * 24)
        self.refused([1], ("put", (1,), nested(24, in_tag)), BadPath, 0)
        self.refused([1], ("insert", (True,), nested(24, in_tag)), BadPath, 0)

    def test_nothing_is_changed(self):
        draft = Draft(Document.of([1]))
        draft.put((0,), 2)
        for call in (lambda: draft.put((5,), 1), lambda: draft.insert((), 1), lambda: draft.remove((9,)), lambda: draft.put((0,), "%")):
            with self.assertRaises((BadPath, BadValue)):
                call()
        self.assertEqual(draft.document(), Document.of([2]))
        self.assertEqual((draft.undo(), draft.undo()), (True, False))
        self.assertEqual(draft.document(), Document.of([1]))


class Runs(unittest.TestCase):
    def test_example(self):
        draft = Draft(Document.of(1))
        with self.assertRaises(BadDeed) as caught:
            draft.run([("put", (), 5), ("put", 5, 1)])
        self.assertEqual(caught.exception.at, 1)
        self.assertEqual((draft.document(), draft.undo()), (Document.of(1), False))

    def test_the_lists_of_splices(self):
        draft = Draft(Document.of([1]))
        found = draft.run([("insert", (1,), "a"), ("put", [0], {}), ("put", (0, 5), 6), ("remove", [1])])
        self.assertEqual(found, [
            [(1, 2, (2,)), (4, 4, (7, 1, 97))], [(2, 4, (9, 0))], [(3, 4, (1,)), (4, 4, (5, 5, 5, 6))], [(1, 2, (1,)), (8, 11, ())],
        ])
        self.assertEqual((type(found), {type(one) for one in found}), (list, {list}))
        self.assertEqual(draft.document().value(), [{5: 6}])
        row = row_of([1])
        for splices in found:
            row = applied(row, splices)
        self.assertEqual(row, draft.document().data)

    def test_no_deeds(self):
        draft = Draft(Document.of(1))
        self.assertEqual(draft.run([]), [])
        self.assertEqual((draft.undo(), draft.undo()), (True, False))

    def test_what_is_no_deed(self):
        for thing in [
            None, True, 5, "put", "remove", (), ("put",), ("remove",), ("insert", ()), ("put", ()), ("put", (), 1, 2), ("remove", (), 1),
            ["put", (), 1], ["remove", (0,)], ("Put", (), 1), ("undo", ()), ("run", []), ("", (), 1), (None, (), 1), ([], (), 1),
            (("put",), (), 1), ({}, ()), (True, ()), ("put", 5, 1), ("put", None, 1), ("put", "", 1), ("put", {}, 1),
            ("put", Document.of([]), 1), ("insert", 0, 1), ("remove", "a"), ("remove", {0: 0}), {}, {"put": 1}, [], [("put", (), 1)],
            Document.of("put"), (Document.of("put"), (), 1), Tag(1, 1), (Tag(1, "put"), (), 1), (Shape.anything(), ()), WrongByte(1),
        ]:
            for before in range(3):
                draft = Draft(Document.of([1, 2]))
                deeds = [("remove", (0,)), ("insert", [0], 5)][:before] + [thing, ("put", (9,), 1)]
                with self.assertRaises(BadDeed) as caught:
                    draft.run(deeds)
                self.assertEqual(caught.exception.at, before)
                self.assertEqual((draft.document(), draft.undo()), (Document.of([1, 2]), False))

    def test_a_wrong_deed_is_noticed_when_its_turn_comes(self):
        draft = Draft(Document.of([1]))
        for deeds, error, told in [
            ([("put", (5,), 1), None], BadPath, 0), ([("put", (), "%"), None], BadValue, ()),
            ([("put", (0,), nested(24, in_tag)), None], TooDeep, 25), ([("put", (), 5), None, ("put", (5,), 1)], BadDeed, 1),
            ([("put", (), [5]), ("remove", (1,)), 5], BadPath, 0),
        ]:
            with self.assertRaises(error) as caught:
                draft.run(deeds)
            self.assertEqual(getattr(caught.exception, ERRORS[error]), told)
            self.assertEqual((draft.document(), draft.undo()), (Document.of([1]), False))

    def test_what_is_taken_back_after_an_error(self):
        draft = Draft(Document.of([1]))
        draft.put((0,), 2)
        draft.run([("insert", (0,), 3), ("insert", (0,), 4)])
        with self.assertRaises(BadPath):
            draft.run([("put", (), {}), ("put", (1,), 1), ("remove", (2,))])
        self.assertEqual(draft.document().value(), [4, 3, 2])
        self.assertIs(draft.undo(), True)
        self.assertEqual(draft.document().value(), [2])
        self.assertIs(draft.undo(), True)
        self.assertEqual(draft.document().value(), [1])
        self.assertIs(draft.undo(), False)


class Undoing(unittest.TestCase):
    def test_example(self):
        draft = Draft(Document.of(1))
        draft.put([], 2)
        self.assertIs(draft.undo(), True)
        self.assertEqual([draft.undo(), draft.document().value()], [False, 1])

    def test_until_nothing_is_left(self):
        draft = Draft(Document.of([]))
        rows = [draft.document()]
        for at in range(100):
            draft.insert([at], at)
            rows.append(draft.document())
        for expected in rows[-2::-1]:
            self.assertIs(draft.undo(), True)
            self.assertEqual(draft.document(), expected)
        self.assertIs(draft.undo(), False)
        self.assertEqual(draft.document(), Document.of([]))

    def test_deeds_behind_what_was_taken_back(self):
        draft = Draft(Document.of(0))
        draft.put((), 1)
        draft.put((), 2)
        draft.undo()
        draft.run([("put", (), 3), ("put", (), 4)])
        draft.run([])
        found = []
        while draft.undo():
            found.append(draft.document().value())
        self.assertEqual(found, [4, 1, 0])

    def test_equal_values_count_too(self):
        draft = Draft(Document.of(5))
        self.assertEqual(draft.put((), 5), [(0, 2, (5, 5))])
        self.assertEqual((draft.undo(), draft.undo()), (True, False))

    def test_a_document_told_before_stays(self):
        draft = Draft(Document.of([1]))
        before = draft.document()
        draft.put((0,), 2)
        after = draft.document()
        draft.undo()
        self.assertEqual((before.value(), after.value()), ([1], [2]))


if __name__ == "__main__":
    unittest.main()
