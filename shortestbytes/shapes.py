"""Shapes, which say what values match them."""

from shortestbytes.choices import Anything, Choice, Just, Named, all_key_forms, form_of_value
from shortestbytes.counts import MOST, is_int, is_number
from shortestbytes.errors import BadShape, BadValue
from shortestbytes.forms import Integers, Sized
from shortestbytes.keyspaces import KeySpace
from shortestbytes.kinds import OCTETS, TEXT, WORDS
from shortestbytes.leaves import is_integer_value, is_key
from shortestbytes.nests import Lists, Maps, Record, Rows, Tagged
from shortestbytes.values import first_bad

LETTERS = "abcdefghijklmnopqrstuvwxyz"
LONGEST_NAME = 8
MOST_KEYS = 40


class Shape:
    """What a value can match; made by its class methods, or as a choice of two."""

    LONGEST = 400

    def __init__(self, form):
        self.form = form

    @classmethod
    def anything(cls):
        """The shape of each value."""
        return cls(Anything())

    @classmethod
    def just(cls, value):
        """The shape of the values with the document of this one."""
        path = first_bad(value)
        if path is not None:
            raise BadValue(path)
        return cls(Just(form_of_value(value)))

    @classmethod
    def integers(cls, low=None, high=None):
        """The shape of the integers from low to high."""
        least = -1 - MOST if low is None else low
        most = MOST if high is None else high
        if not is_integer_value(least) or not is_integer_value(most) or least > most:
            raise BadShape("integers")
        return cls(Integers(least, most))

    @classmethod
    def texts(cls, least=0, most=None):
        """The shape of the texts with a length from least to most."""
        if not are_lengths(least, most):
            raise BadShape("texts")
        return cls(Sized(TEXT, least, length_or_most(most)))

    @classmethod
    def octets(cls, least=0, most=None):
        """The shape of the octets with a length from least to most."""
        if not are_lengths(least, most):
            raise BadShape("octets")
        return cls(Sized(OCTETS, least, length_or_most(most)))

    @classmethod
    def rows(cls, *shapes):
        """The shape of the lists with one item for each of the shapes."""
        if not are_shapes(shapes):
            raise BadShape("rows")
        return cls(Rows([shape.form for shape in shapes]))

    @classmethod
    def lists(cls, item, *, least=0, most=None):
        """The shape of the lists of at least `least` and at most `most` items."""
        if not isinstance(item, Shape) or not are_lengths(least, most):
            raise BadShape("lists")
        return cls(Lists(item.form, least, length_or_most(most)))

    @classmethod
    def maps(cls, key, content, *, least=0, most=None):
        """The shape of the maps of at least `least` and at most `most` pairs."""
        if not isinstance(key, Shape) or not isinstance(content, Shape) or not are_lengths(least, most):
            raise BadShape("maps")
        forms = key_forms(key.form)
        if not forms or how_many_keys(forms) < least:
            raise BadShape("maps")
        return cls(Maps(forms, content.form, least, length_or_most(most)))

    @classmethod
    def record(cls, required, *, optional=None):
        """The shape of the maps with all required keys and any of the optional ones."""
        others = {} if optional is None else optional
        if not is_table(required) or not is_table(others):
            raise BadShape("record")
        if any([key in required for key in others]) or len(required) + len(others) > MOST_KEYS:
            raise BadShape("record")
        return cls(Record(forms_of(required), forms_of(others)))

    @classmethod
    def fields(cls, **shapes):
        """The shape of the maps whose keys are the names of the arguments, as texts."""
        if not are_shapes(list(shapes.values())):
            raise BadShape("fields")
        return cls(Record(forms_of(shapes), {}))

    @classmethod
    def tagged(cls, number, content):
        """The shape of the tags with this number."""
        if not is_number(number) or not isinstance(content, Shape):
            raise BadShape("tagged")
        return cls(Tagged(number, content.form))

    @classmethod
    def named(cls, name):
        """The shape that a schema has under this name."""
        if not is_name(name):
            raise BadShape("named")
        return cls(Named(name))

    def __or__(self, other):
        if not isinstance(other, Shape):
            return NotImplemented
        return Shape(Choice(choices_of(self.form) + choices_of(other.form)))


def is_length(thing):
    """Whether any value is a length that a shape can name."""
    return is_int(thing) and 0 <= thing <= Shape.LONGEST


def are_lengths(least, most):
    """Whether two values are lengths, the second one not less than the first or None."""
    return is_length(least) and (most is None or (is_length(most) and least <= most))


def length_or_most(most):
    """The greatest length that a value of a shape can have."""
    return MOST if most is None else most


def are_shapes(things):
    """Whether all of the things are Shapes."""
    return all([isinstance(thing, Shape) for thing in things])


def is_table(thing):
    """Whether any value is a dict from keys to Shapes."""
    if not isinstance(thing, dict):
        return False
    return all([is_key(key) and isinstance(thing[key], Shape) for key in thing])


def forms_of(table):
    """A new dict with the forms instead of the Shapes."""
    return {key: table[key].form for key in table}


def is_name(thing):
    """Whether any value is a name."""
    if not isinstance(thing, str) or not 1 <= len(thing) <= LONGEST_NAME:
        return False
    return all([sign in LETTERS for sign in thing])


def choices_of(form):
    """The forms that a choice is made of, or the form itself."""
    return list(form.choices) if isinstance(form, Choice) else [form]


def key_forms(form):
    """The forms of keys that a form stands for, in ascending order; none if it is not that of a key shape."""
    if isinstance(form, Anything):
        return all_key_forms()
    by_word = {}
    for one in choices_of(form):
        if not isinstance(one, (Integers, Sized)):
            return []
        word = WORDS[one.kinds()[0]]
        if word in by_word:
            return []
        by_word[word] = one
    # The words of keys stand in the order of the alphabet as the kinds of keys do.
    return [by_word[word] for word in sorted(list(by_word))]


def how_many_keys(forms):
    """How many keys some forms of keys have, counted as far as it matters."""
    return KeySpace([span for form in forms for span in form.spans()]).many
