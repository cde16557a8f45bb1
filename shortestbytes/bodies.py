"""Items that are being read: what stands behind their kind bytes, and the parts within them.

Each body takes the bytes of its own; `advance` is called when it wants none for now, and gives
the item within it that begins next. A body that gives none and wants no byte is whole.
"""

from shortestbytes.counts import MOST, number_at, number_code
from shortestbytes.kinds import TAG
from shortestbytes.scans import CodeScan, RowScan


class EmptyBody:
    """What stands behind a kind byte that is an item by itself: nothing."""

    def wants_byte(self):
        """No byte follows."""
        return False

    def advance(self):
        """No item follows."""
        return None


class NestBody:
    """What the bodies of nests have in common: a scan for the code, and the level of the nest."""

    def __init__(self, grammar, level, code):
        self._grammar = grammar
        self._level = level
        self._code = code
        # The number of items or pairs, or the contents of a tag, that have been begun.
        self._begun = 0

    def wants_byte(self):
        """Whether the next byte belongs to the body itself."""
        return self._code.wants_byte()

    def ranges(self):
        """The bytes that can come next."""
        return self._code.ranges()

    def take(self, byte):
        """Takes a byte that can come next."""
        self._code.take(byte)

    def part_of(self, form):
        """A part of the nest that begins and must be of a form."""
        return Item(self._grammar, form, self._level + 1)


class ListBody(NestBody):
    """A list with a number of items from low to high; its form tells the form of each item."""

    def __init__(self, grammar, form, level, low, high):
        super().__init__(grammar, level, CodeScan(low, high))
        self._form = form

    def advance(self):
        """The next item of the list, or None behind the last one."""
        if self._begun == self._code.number_taken():
            return None
        self._begun += 1
        return self.part_of(self._form.item_form(self._begun - 1))


class MapBody(NestBody):
    """A map with a number of pairs from low to high."""

    def __init__(self, grammar, pairs, level, low, high):
        super().__init__(grammar, level, CodeScan(low, high))
        self._pairs = pairs
        self._key = None

    def wants_byte(self):
        """Whether the code of the number of pairs, or a key, is not whole."""
        return self._code.wants_byte() or (self._key is not None and self._key.wants_byte())

    def ranges(self):
        """The bytes that can come next."""
        return self._code.ranges() if self._key is None else self._key.ranges()

    def take(self, byte):
        """Takes a byte that can come next."""
        if self._key is None:
            self._code.take(byte)
        else:
            self._key.take(byte)

    def advance(self):
        """The value behind a key that is whole; otherwise None, and the next key begins if there is one."""
        if self._key is not None:
            form = self._pairs.value_form(self._key.row())
            self._key = None
            return self.part_of(form)
        many = self._code.number_taken()
        if self._begun < many:
            self._begun += 1
            self._key = self._pairs.key_scan(many - self._begun)
        return None


def tag_code(numbers):
    """A scan for the code of one of the numbers, or of any number if None is one of them."""
    if None in numbers:
        return CodeScan(0, MOST)
    return RowScan([number_code(number) for number in numbers])


class TagBody(NestBody):
    """A tag of one of several forms, each with another number, or of one for all numbers."""

    def __init__(self, grammar, forms, level):
        self._inner = {form.number: form.inner for form in forms}
        super().__init__(grammar, level, tag_code(list(self._inner)))

    def advance(self):
        """The content of the tag, once."""
        if self._begun == 1:
            return None
        self._begun += 1
        number, _ = number_at(self._code.row())
        return self.part_of(self._inner[None] if None in self._inner else self._inner[number])


class Item:
    """An item that is being read; it must be of a form."""

    def __init__(self, grammar, form, level):
        self._grammar = grammar
        self._level = level
        self._kinds, self._forms = grammar.beginnings(form, level)
        self._body = None

    def wants_byte(self):
        """Whether the next byte belongs to the item itself, and not to a part of it."""
        return self._body is None or self._body.wants_byte()

    def ranges(self):
        """The bytes that can come next."""
        return self._kinds if self._body is None else self._body.ranges()

    def take(self, byte):
        """Takes a byte that can come next."""
        if self._body is not None:
            self._body.take(byte)
        elif byte == TAG:
            self._body = TagBody(self._grammar, self._forms[TAG], self._level)
        else:
            form = self._forms[byte][0]
            self._body = form.body(byte, self._grammar, self._level)

    def advance(self):
        """The item that begins next within this one, or None."""
        return self._body.advance()


class Course:
    """The way through one document, byte by byte."""

    def __init__(self, grammar):
        # The items that have been begun and are not whole, the outermost one first.
        self._chain = [Item(grammar, grammar.root(), 1)]

    def is_over(self):
        """Whether the document is whole."""
        return not self._chain

    def ranges(self):
        """The bytes that can come next."""
        return self._chain[-1].ranges() if self._chain else []

    def take(self, byte):
        """Takes a byte that can come next."""
        self._chain[-1].take(byte)
        while self._chain and not self._chain[-1].wants_byte():
            inner = self._chain[-1].advance()
            if inner is not None:
                self._chain.append(inner)
            elif not self._chain[-1].wants_byte():
                self._chain.pop()
