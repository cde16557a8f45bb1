"""Schemas, which say what values are allowed, by a root shape and named shapes."""

from shortestbytes.choices import Choice, Named
from shortestbytes.errors import Ambiguous, Barren, Circular, UnknownName
from shortestbytes.grammar import Grammar
from shortestbytes.values import DEEPEST, is_value


class Schema:
    """A root shape, and shapes with names, which the root and they themselves can mention."""

    def __init__(self, root, named=None):
        table = {} if named is None else named
        # The root has the name None here and comes first; then come the names in ascending order.
        forms = {None: root.form}
        for name in sorted(list(table)):
            forms[name] = table[name].form
        unknown = unknown_names(forms)
        if unknown:
            raise UnknownName(unknown[0])
        circular = circular_names(forms)
        if circular:
            raise Circular(circular[0])
        grammar = Grammar(forms)
        ambiguous = [name for name in forms if grammar.has_ambiguous_choice(forms[name])]
        if ambiguous:
            raise Ambiguous(ambiguous[0])
        barren = [name for name in forms if grammar.depth_named(name) > DEEPEST]
        if barren:
            raise Barren(barren[0])
        self._names = [name for name in forms if name is not None]
        self._grammar = grammar

    @classmethod
    def of(cls, root, **named):
        """The schema with the names of the arguments."""
        return cls(root, named)

    def names(self):
        """The names, a new list in ascending order."""
        return list(self._names)

    def matches(self, value):
        """Whether any value is a value that matches the root."""
        return is_value(value) and self._grammar.is_met(self._grammar.root(), value)

    def least_depth(self, name=None):
        """The least depth of a value that matches the shape with a name, or the root for None."""
        return self._grammar.depth_named(name)

    def grammar(self):
        """What readers go by."""
        return self._grammar


def names_in(form):
    """The names that are mentioned within a form."""
    if isinstance(form, Named):
        return [form.name]
    return [name for part in form.parts() for name in names_in(part)]


def unknown_names(forms):
    """The names that are mentioned by some forms and are not among them, in ascending order."""
    found = {name: True for key in forms for name in names_in(forms[key]) if name not in forms}
    return sorted(list(found))


def names_led_to(form):
    """The names that a form leads to directly."""
    choices = form.choices if isinstance(form, Choice) else [form]
    return [one.name for one in choices if isinstance(one, Named)]


def circular_names(forms):
    """The names that lead to themselves, in ascending order."""
    return [name for name in forms if name in all_names_led_to(forms, name)]


def all_names_led_to(forms, name):
    """The names that a name leads to, directly or through others, as a dict of True."""
    found = {}
    ahead = names_led_to(forms[name])
    while ahead:
        other = ahead.pop()
        if other not in found:
            found[other] = True
            ahead.extend(list(names_led_to(forms[other])))
    return found
