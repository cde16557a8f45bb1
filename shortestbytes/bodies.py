"""Items that are being read: where they begin, what stands behind their kind bytes, and the parts within them.

None of them ever changes. `after` gives the one behind a byte; `advanced` is called when no byte is wanted
for now, and gives the one behind that and the item within it that begins next, or None. A body that then
wants no byte and has no item within it is whole.
"""

from shortestbytes.counts import MOST, number_at, number_code
from shortestbytes.items import worth_at
from shortestbytes.kinds import TAG
from shortestbytes.scans import RowScan, code_scan
from shortestbytes.ways import both, either, later, no_way, one_way


class EmptyBody:
    """What stands behind a kind byte that is an item by itself: nothing."""

    def wants_byte(self):
        """No byte follows."""
        return False

    def advanced(self):
        """No item follows."""
        return self, None

    def least_size(self):
        """No byte is needed."""
        return 0

    def ways(self, most):
        """There is nothing to do."""
        return one_way(most)


class NestBody:
    """What the bodies of nests have in common: the level of the nest, and the way through its code.

    `begun` is the number of items or pairs, or of contents of a tag, that have been begun or begin next.
    """

    def __init__(self, grammar, level, code, begun):
        self._grammar = grammar
        self._level = level
        self._code = code
        self._begun = begun
        # The ways that were asked for before.
        self._known = {}

    def wants_byte(self):
        """Whether the next byte belongs to the body itself."""
        return self._code.wants_byte()

    def ranges(self):
        """The bytes that can come next."""
        return self._code.ranges()

    def part_of(self, form, owed):
        """A part of the nest that begins next, and what it owes before it begins."""
        return Item(self._grammar, form, self._level + 1, owed)

    def ways(self, most):
        """The ways to finish the body, without the part that is being read."""
        if most not in self._known:
            self._known[most] = self.ways_to_end(most)
        return self._known[most]

    def ways_by_code(self, most):
        """The ways to finish the body if the code is not whole, for each number that it can become."""
        found = no_way(most)
        for number, missing in self._code.reachable(most):
            found = either(found, later(self.ways_behind_code(number, most - missing), missing))
        return found


class ListBody(NestBody):
    """A list; its form tells the form of each item."""

    def __init__(self, grammar, form, level, code, begun=0):
        super().__init__(grammar, level, code, begun)
        self._form = form

    def after(self, byte):
        """The body behind a byte that can come next."""
        return ListBody(self._grammar, self._form, self._level, self._code.after(byte), self._begun)

    def advanced(self):
        """The body, and the next item of the list or None behind the last one."""
        if self._begun == self._code.number_taken():
            return self, None
        body = ListBody(self._grammar, self._form, self._level, self._code, self._begun + 1)
        return body, self.part_of(self._form.item_form(self._begun), 1)

    def step(self):
        """The index of the item that is being read."""
        return self._begun - 1

    def owed(self):
        """How many items come behind that one, at least."""
        return self._code.least_number() - self._begun

    def short(self):
        """The bytes with which a short list goes on, one or more."""
        return [self._code.short()]

    def least_size(self):
        """The least count of bytes of the body, if it has not begun."""
        many = self._code.least_number()
        items = [self._grammar.least_size(self._form.item_form(at), self._level + 1) for at in range(many)]
        return len(number_code(many)) + sum(items)

    def ways_to_end(self, most):
        """The ways to finish the body, without the part that is being read."""
        if self._code.wants_byte():
            return self.ways_by_code(most)
        return self.ways_behind_code(self._code.number_taken(), most)

    def ways_behind_code(self, number, most):
        """The ways through the items that have not been begun, if the list has so many items."""
        # Each item has a byte or more.
        if number - self._begun > most:
            return no_way(most)
        found = one_way(most)
        for at in range(self._begun, number):
            found = both(found, self._grammar.ways(self._form.item_form(at), self._level + 1, most))
        return found


class MapBody(NestBody):
    """A map; `pairs` are those that come behind the last key, whose row is `row`.

    `key` is the way through the key that is being read, and None if none is.
    """

    def __init__(self, grammar, pairs, level, code, begun=0, key=None, row=None):
        super().__init__(grammar, level, code, begun)
        self._pairs = pairs
        self._key = key
        self._row = row

    def wants_byte(self):
        """Whether the code of the number of pairs, or a key, is not whole."""
        return self._code.wants_byte() or (self._key is not None and self._key.wants_byte())

    def ranges(self):
        """The bytes that can come next."""
        return self._code.ranges() if self._key is None else self._key.ranges()

    def after(self, byte):
        """The body behind a byte that can come next."""
        if self._key is None:
            return MapBody(self._grammar, self._pairs, self._level, self._code.after(byte))
        return self._with_key(self._begun, self._key.after(byte))

    def _with_key(self, begun, key):
        return MapBody(self._grammar, self._pairs, self._level, self._code, begun, key)

    def advanced(self):
        """The body, and the value behind a key that is whole; otherwise the next key begins, if there is one."""
        if self._key is not None:
            row = self._key.row()
            body = MapBody(self._grammar, self._pairs.behind(row), self._level, self._code, self._begun, None, row)
            return body, self.part_of(self._pairs.value_form(row), 0)
        left = self._left()
        if left == 0:
            return self, None
        return self._with_key(self._begun + 1, self._pairs.key_scan(left - 1)), None

    def _left(self):
        """How many pairs come behind the one that is being read, at least."""
        return self._code.least_number() - self._begun

    def step(self):
        """The key whose value is being read."""
        key, _ = worth_at(self._row, 0)
        return key

    def owed(self):
        """How many pairs come behind that one, at least, and what the key owes."""
        if self._key is None:
            return self._left()
        return self._left() + (self._key.owed() if self._key.row() else 1)

    def short(self):
        """The bytes with which a short map goes on, one or more."""
        return [self._code.short()] if self._key is None else self._pairs.short(self._key, self._left())

    def least_size(self):
        """The least count of bytes of the body, if it has not begun."""
        many = self._code.least_number()
        return len(number_code(many)) + self._pairs.least_size(many)

    def ways_to_end(self, most):
        """The ways to finish the body, without the value that is being read."""
        if self._code.wants_byte():
            return self.ways_by_code(most)
        if self._key is None:
            return self._pairs.ways([], self._left(), most)
        return self._pairs.ways(self._key.row(), self._left() + 1, most)

    def ways_behind_code(self, number, most):
        """The ways through the pairs, if the map has so many."""
        return self._pairs.ways([], number, most)


def tag_body(grammar, forms, level):
    """A tag of one of several forms, each with another number, or of one for all numbers."""
    inner = {form.number: form.inner for form in forms}
    if None in inner:
        return TagBody(grammar, inner, level, code_scan(0, MOST))
    return TagBody(grammar, inner, level, RowScan([number_code(number) for number in sorted(list(inner))]))


class TagBody(NestBody):
    """A tag; `inner` is a dict from its numbers to the forms of the content, or from None for all numbers."""

    def __init__(self, grammar, inner, level, code, begun=0):
        super().__init__(grammar, level, code, begun)
        self._inner = inner

    def after(self, byte):
        """The body behind a byte that can come next."""
        return TagBody(self._grammar, self._inner, self._level, self._code.after(byte), self._begun)

    def advanced(self):
        """The body, and the content of the tag, once."""
        if self._begun == 1:
            return self, None
        body = TagBody(self._grammar, self._inner, self._level, self._code, 1)
        return body, self.part_of(self._inner_form(self._code.row()), 0)

    def _inner_form(self, row):
        """The form of the content behind a code."""
        number, _ = number_at(row)
        return self._inner[None] if None in self._inner else self._inner[number]

    def step(self):
        """That to the content."""
        return 0

    def owed(self):
        """Nothing, for there is one content."""
        return 0

    def _sizes(self):
        """For each code that can still come the least count of bytes of it and the content, and the code, in tuples."""
        codes = [[0]] if None in self._inner else self._code.rows_left()
        forms = [(code, self._inner_form(code)) for code in codes]
        return [(len(code) + self._grammar.least_size(form, self._level + 1), code) for code, form in forms]

    def short(self):
        """The bytes with which a short tag goes on, one or more."""
        if None in self._inner:
            return [self._code.short()]
        _, code = min(self._sizes())
        return code[len(self._code.row()):]

    def least_size(self):
        """The least count of bytes of the body, if it has not begun."""
        size, _ = min(self._sizes())
        return size

    def ways_to_end(self, most):
        """The ways to finish the body, without the content if this is being read."""
        if not self._code.wants_byte():
            return one_way(most)
        if most == 0:
            return no_way(most)
        if None in self._inner:
            # The code takes a byte or more.
            content = self._grammar.ways(self._inner[None], self._level + 1, most - 1)
            return later(both(self._code.ways(most)[1:], content), 1)
        found = no_way(most)
        for code in self._code.rows_left():
            missing = len(code) - len(self._code.row())
            if missing <= most:
                content = self._grammar.ways(self._inner_form(code), self._level + 1, most - missing)
                found = either(found, later(content, missing))
        return found


def body_of(grammar, form, level, kind):
    """What stands behind a kind byte of an item of a form at a level."""
    _, forms = grammar.beginnings(form, level)
    if kind == TAG:
        return tag_body(grammar, forms[TAG], level)
    return forms[kind][0].body(kind, grammar, level)


class Item:
    """An item of a form that has not begun; until then it owes as much as told."""

    def __init__(self, grammar, form, level, owed):
        self._grammar = grammar
        self._form = form
        self._level = level
        self._owed = owed

    def wants_byte(self):
        """The kind byte is wanted."""
        return True

    def ranges(self):
        """The kind bytes that can come."""
        ranges, _ = self._grammar.beginnings(self._form, self._level)
        return list(ranges)

    def after(self, byte):
        """What stands behind the kind byte."""
        return body_of(self._grammar, self._form, self._level, byte)

    def owed(self):
        """What it owes."""
        return self._owed

    def short(self):
        """The kind byte with which a shortest item begins."""
        _, kind = min(self._grammar.sizes_by_kind(self._form, self._level))
        return [kind]

    def ways(self, most):
        """The ways through the item."""
        return self._grammar.ways(self._form, self._level, most)
