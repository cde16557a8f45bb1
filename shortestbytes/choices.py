"""The forms that stand for others: names, choices, anything, and just one value."""

from shortestbytes.counts import MOST
from shortestbytes.forms import Constant, Form, Integers, Sized
from shortestbytes.kinds import FALSE, NONE, OCTETS, TEXT, TRUE
from shortestbytes.leaves import content_of, leaf_row
from shortestbytes.nests import Lists, Maps, Record, Rows, Tagged
from shortestbytes.values import Tag, parts_of


def all_key_forms():
    """The forms of all keys, in ascending order."""
    return [Integers(-1 - MOST, MOST), Sized(OCTETS, 0, MOST), Sized(TEXT, 0, MOST)]


class Anything(Form):
    """Each value."""

    def expanded(self, grammar):
        """One form for each word, with anything in the nests."""
        constants = [Constant(NONE), Constant(FALSE), Constant(TRUE)]
        nests = [Lists(self, 0, MOST), Maps(all_key_forms(), self, 0, MOST), Tagged(None, self)]
        return constants + all_key_forms() + nests


class Just(Form):
    """Just the values with one document; the inner form has no other ones."""

    def __init__(self, inner):
        self._inner = inner

    def expanded(self, grammar):
        """The inner form."""
        return [self._inner]

    def depth_by(self, depths):
        """The depth of the value."""
        return self._inner.depth_by(depths)


class Named(Form):
    """The values of the form that the schema has under a name."""

    def __init__(self, name):
        self.name = name

    def expanded(self, grammar):
        """The alternatives of the form with the name."""
        return grammar.alternatives(grammar.form_named(self.name))

    def depth_by(self, depths):
        """The least depth of the name."""
        return depths[self.name]


class Choice(Form):
    """The values of any of some forms, none of which is a choice."""

    def __init__(self, choices):
        self.choices = choices

    def expanded(self, grammar):
        """The alternatives of all the forms."""
        return [one for form in self.choices for one in grammar.alternatives(form)]

    def parts(self):
        """The forms to choose from."""
        return list(self.choices)

    def depth_by(self, depths):
        """The least one of the forms."""
        return min([form.depth_by(depths) for form in self.choices])


def form_of_value(value):
    """The form of the values that have the same document as a value."""
    if isinstance(value, list):
        return Rows([form_of_value(item) for item in value])
    if isinstance(value, dict):
        return Record({key: form_of_value(part) for key, part in parts_of(value)}, {})
    if isinstance(value, Tag):
        return Tagged(value.number, form_of_value(value.content()))
    if value is None or isinstance(value, bool):
        return Constant(leaf_row(value)[0])
    if isinstance(value, int):
        return Integers(value, value)
    return Sized(TEXT if isinstance(value, str) else OCTETS, len(value), len(value), content_of(value))
