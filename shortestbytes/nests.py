"""The forms of nests."""

from shortestbytes.bodies import ListBody, MapBody
from shortestbytes.forms import Form
from shortestbytes.keyspaces import KeySpace
from shortestbytes.kinds import LIST, MAP, TAG
from shortestbytes.leaves import leaf_row
from shortestbytes.pairs import ListedPairs, ShapedPairs
from shortestbytes.scans import code_scan
from shortestbytes.values import Tag, parts_of


class Rows(Form):
    """The lists with one item for each of some forms."""

    def __init__(self, inner):
        self._inner = inner

    def parts(self):
        """The forms of the items."""
        return list(self._inner)

    def depth_by(self, depths):
        """One more than that of the deepest item."""
        return 1 + max([form.depth_by(depths) for form in self._inner], default=0)

    def kinds(self):
        """The kind byte."""
        return [LIST]

    def item_form(self, at):
        """The form of the item at an index."""
        return self._inner[at]

    def is_met_by(self, value, grammar):
        """Whether a value is such a list."""
        if not isinstance(value, list) or len(value) != len(self._inner):
            return False
        return all([grammar.is_met(form, item) for form, item in zip(self._inner, value)])

    def body(self, kind, grammar, level):
        """The way through just as many items."""
        return ListBody(grammar, self, level, code_scan(len(self._inner), len(self._inner)))


class Lists(Form):
    """The lists of at least `least` and at most `most` items of one form."""

    def __init__(self, inner, least, most):
        self._inner = inner
        self._least = least
        self._most = most

    def parts(self):
        """The form of the items."""
        return [self._inner]

    def depth_by(self, depths):
        """That of an empty list, or of one with least items."""
        return 1 + self._inner.depth_by(depths) if self._least > 0 else 1

    def kinds(self):
        """The kind byte."""
        return [LIST]

    def item_form(self, at):
        """The form of the item at an index."""
        return self._inner

    def is_met_by(self, value, grammar):
        """Whether a value is such a list."""
        if not isinstance(value, list) or not self._least <= len(value) <= self._most:
            return False
        return all([grammar.is_met(self._inner, item) for item in value])

    def body(self, kind, grammar, level):
        """The way through items, as far as there is a level left for them."""
        most = self._most if grammar.fits(self._inner, level + 1) else 0
        return ListBody(grammar, self, level, code_scan(self._least, most))


class Maps(Form):
    """The maps of at least `least` and at most `most` pairs with keys of some forms and values of one form."""

    def __init__(self, key_forms, inner, least, most):
        self._key_forms = key_forms
        self._space = KeySpace([span for form in key_forms for span in form.spans()])
        self._inner = inner
        self._least = least
        self._most = most

    def parts(self):
        """The forms of the keys and that of the values."""
        return self._key_forms + [self._inner]

    def depth_by(self, depths):
        """That of an empty map, or of one with least pairs."""
        return 1 + self._inner.depth_by(depths) if self._least > 0 else 1

    def kinds(self):
        """The kind byte."""
        return [MAP]

    def is_met_by(self, value, grammar):
        """Whether a value is such a map."""
        if not isinstance(value, dict) or not self._least <= len(value) <= self._most:
            return False
        return all([self._has_key(key, grammar) and grammar.is_met(self._inner, value[key]) for key in value])

    def _has_key(self, key, grammar):
        return any([form.is_met_by(key, grammar) for form in self._key_forms])

    def body(self, kind, grammar, level):
        """The way through pairs, as far as there are keys, and a level left for the values."""
        most = min(self._most, self._space.many) if grammar.fits(self._inner, level + 1) else 0
        pairs = ShapedPairs(grammar, self._space, self._inner, level + 1)
        return MapBody(grammar, pairs, level, code_scan(self._least, most))


class Record(Form):
    """The maps with all required keys and any of the optional ones; both are dicts from keys to forms."""

    def __init__(self, required, optional):
        self._table = {**required, **optional}
        self._required = list(required)
        ascending = sorted(list(self._table), key=leaf_row)
        # The row of each key, the form of its value, and whether it is required.
        self._entries = [(leaf_row(key), self._table[key], key in required) for key in ascending]

    def parts(self):
        """The forms of the values."""
        return [form for _, form, _ in self._entries]

    def depth_by(self, depths):
        """One more than that of the deepest required value."""
        return 1 + max([form.depth_by(depths) for _, form, is_required in self._entries if is_required], default=0)

    def kinds(self):
        """The kind byte."""
        return [MAP]

    def is_met_by(self, value, grammar):
        """Whether a value is such a map."""
        if not isinstance(value, dict) or not all([key in value for key in self._required]):
            return False
        return all([key in self._table and grammar.is_met(self._table[key], value[key]) for key in value])

    def body(self, kind, grammar, level):
        """The way through the required pairs, and the optional ones for whose values there is a level left."""
        entries = [entry for entry in self._entries if entry[2] or grammar.fits(entry[1], level + 1)]
        pairs = ListedPairs(grammar, entries, level + 1)
        return MapBody(grammar, pairs, level, code_scan(len(self._required), len(entries)))


class Tagged(Form):
    """The tags with one number, or with any number if it is None, and a content of one form."""

    def __init__(self, number, inner):
        self.number = number
        self.inner = inner

    def parts(self):
        """The form of the content."""
        return [self.inner]

    def depth_by(self, depths):
        """One more than that of the content."""
        return 1 + self.inner.depth_by(depths)

    def kinds(self):
        """The kind byte."""
        return [TAG]

    def is_met_by(self, value, grammar):
        """Whether a value is such a tag."""
        if not isinstance(value, Tag) or self.number not in (None, value.number):
            return False
        _, content = parts_of(value)[0]
        return grammar.is_met(self.inner, content)
