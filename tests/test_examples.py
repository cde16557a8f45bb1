"""Every example of the interface, as the document writes it: the last line of one tells what the line before gives."""

import ast
import unittest

from shortestbytes import errors

EXAMPLES = """
>>> from shortestbytes.counts import number_code
>>> number_code(300)
[193, 1, 44]

>>> from shortestbytes.counts import number_at
>>> number_at([7, 193, 1, 44, 9], 1)
(300, 4)

>>> from shortestbytes.counts import number_at
>>> number_at([192, 5])
raises WrongByte(1)

>>> from shortestbytes.values import is_value
>>> is_value({True: 1})
False

>>> from shortestbytes.values import Tag
>>> tag = Tag(3, [1])
>>> [tag.number, tag.content()]
[3, [1]]

>>> from shortestbytes.documents import Document
>>> Document.of({1: 'a', -1: None}).data
(9, 2, 4, 255, 1, 5, 1, 7, 1, 97)

>>> from shortestbytes.documents import Document
>>> Document.of([1, {2: (256,)}])
raises BadValue(path=(1, 2))

>>> from shortestbytes.documents import Document
>>> Document.of(-1) < Document.of(0)
True

>>> from shortestbytes.documents import Document
>>> repr(Document.of(42))
'Document(05 2a)'

>>> from shortestbytes.documents import Document
>>> list(Document.of({1: 'a'}).events())
[(0, 1, False, 'map', 1), (2, 2, True, 'integer', 1), (4, 2, False, 'text', 'a')]

>>> from shortestbytes.documents import Document
>>> Document.of({1: 'a'}).listing()
['     0  09 01           map 1', '     2  05 01           . key integer 1', '     4  07 01           . text 1']

>>> from shortestbytes.reading import read
>>> read([8, 2, 1, 5, 5])
[None, 5]

>>> from shortestbytes.reading import first_wrong
>>> first_wrong([9, 2, 5, 192, 255, 1, 5, 192, 200, 1])
7

>>> from shortestbytes.readers import Reader
>>> reader = Reader()
>>> reader.feed([2, 8, 2])
>>> [reader.position, reader.is_between, reader.allowed(), reader.place(), reader.owed()]
[3, False, [(1, 10)], (0,), 2]

>>> from shortestbytes.readers import Reader
>>> reader = Reader()
>>> reader.feed([7, 2, 97])
>>> reader.feed([98, 0])
raises WrongByte(4)

>>> from shortestbytes.writers import Writer
>>> writer = Writer()
>>> writer.put('list', 1)
>>> writer.put('text', 'a')
>>> writer.written()
[8, 1, 7, 1, 97]

>>> from shortestbytes.views import end_of
>>> end_of([5, 5, 7, 2, None, None, 1], 2)
6

>>> from shortestbytes.views import View
>>> View([8, 3, 7, 1, None, 5, 9, 1]).part(1).value()
9

>>> from shortestbytes.views import View
>>> children = list(View([9, 1, 5, 1, 7, 1, 97]).children())
>>> [children[0][0], children[0][1].kind, children[0][1].start]
[1, 'text', 4]

>>> from shortestbytes.views import View
>>> View([8, 1, 1]).part(0, 0)
raises BadPath(1)

>>> from shortestbytes.views import View
>>> View([8, 2, 1]).part(1)
raises Unfinished(3)

>>> from shortestbytes.views import end_of
>>> end_of([8, 1, 11])
raises WrongByte(2)

>>> from shortestbytes.documents import Document
>>> from shortestbytes.drafts import Draft
>>> Draft(Document.of([1, 2])).insert((1,), 'a')
[(1, 2, (3,)), (4, 4, (7, 1, 97))]

>>> from shortestbytes.documents import Document
>>> from shortestbytes.drafts import Draft
>>> Draft(Document.of({1: 'a'})).put([2], None)
[(1, 2, (2,)), (7, 7, (5, 2, 1))]

>>> from shortestbytes.documents import Document
>>> from shortestbytes.drafts import Draft
>>> Draft(Document.of([1, 2])).remove([0])
[(1, 2, (1,)), (2, 4, ())]

>>> from shortestbytes.documents import Document
>>> from shortestbytes.drafts import Draft
>>> draft = Draft(Document.of(1))
>>> draft.put([], 2)
>>> draft.undo()
>>> [draft.undo(), draft.document().value()]
[False, 1]

>>> from shortestbytes.documents import Document
>>> from shortestbytes.drafts import Draft
>>> draft = Draft(Document.of(1))
>>> draft.run([('put', (), 5), ('put', 5, 1)])
raises BadDeed(1)

>>> from shortestbytes.loose import shorten
>>> shorten([14, 9, 1, 5, 192, 2, 1, 9, 1, 5, 1, 1, 0]).data
(9, 2, 5, 1, 1, 5, 2, 1)

>>> from shortestbytes.loose import shorten
>>> shorten([12, 7, 1, 97, 15, 1, 255, 7, 1, 98, 0]).data
(7, 2, 97, 98)

>>> from shortestbytes.loose import shorten
>>> shorten([9, 2, 5, 1, 1, 5, 192, 1, 1])
raises DuplicateKey(5)

>>> from shortestbytes.schemas import Schema
>>> from shortestbytes.shapes import Shape
>>> Schema(Shape.integers(0, 3) | Shape.integers(7, 9))
raises Ambiguous(None)

>>> from shortestbytes.schemas import Schema
>>> from shortestbytes.shapes import Shape
>>> Schema.of(Shape.named('tree'), tree=Shape.lists(Shape.named('tree'), least=1))
raises Barren(None)

>>> from shortestbytes.reading import first_wrong
>>> from shortestbytes.schemas import Schema
>>> from shortestbytes.shapes import Shape
>>> first_wrong([5, 193, 1, 55], schema=Schema(Shape.integers(300, 310)))
3

>>> from shortestbytes.readers import Reader
>>> from shortestbytes.schemas import Schema
>>> from shortestbytes.shapes import Shape
>>> reader = Reader(Schema(Shape.maps(Shape.integers(0, 5), Shape.anything())))
>>> reader.feed([9, 3, 5])
>>> reader.allowed()
[(0, 3)]

>>> from shortestbytes.counting import Counter
>>> Counter().how_many(2)
388

>>> from shortestbytes.counting import Counter
>>> Counter().nth(2, 384).data
(6, 0)
"""


def examples():
    """The examples: the lines of code, and the line that tells what the last one gives."""
    for block in EXAMPLES.strip().split("\n\n"):
        *lines, told = block.split("\n")
        assert all(line.startswith(">>> ") for line in lines) and not told.startswith(">>> ")
        yield [line[4:] for line in lines], told


class Examples(unittest.TestCase):
    def test_each_example(self):
        many = 0
        for lines, told in examples():
            with self.subTest(lines=lines):
                many += 1
                names = {}
                for line in lines[:-1]:
                    exec(line, names)
                if told.startswith("raises "):
                    self.raises(lines[-1], names, ast.parse(told[len("raises "):], mode="eval").body)
                else:
                    self.assertEqual(eval(lines[-1], names), ast.literal_eval(told))
        self.assertEqual(many, 36)

    def raises(self, line, names, call):
        expected = [ast.literal_eval(argument) for argument in call.args]
        expected += [ast.literal_eval(keyword.value) for keyword in call.keywords]
        with self.assertRaises(getattr(errors, call.func.id)) as caught:
            eval(line, names)
        self.assertEqual(list(vars(caught.exception).values()), expected)


if __name__ == "__main__":
    unittest.main()
