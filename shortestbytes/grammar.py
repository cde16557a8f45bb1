"""Grammars: a root form and forms with names, and what follows from them together."""

from shortestbytes.bodies import body_of
from shortestbytes.choices import Anything, Choice
from shortestbytes.kinds import WORDS
from shortestbytes.nests import Tagged
from shortestbytes.scans import ranges_of
from shortestbytes.values import DEEPEST
from shortestbytes.ways import either, later, no_way

# The depth of a form that no value matches, however deep. It is greater than the depth that
# the forms of a schema, which are nested at most 30 deep, can add to the deepest value.
NEVER = 1000


def least_depths(forms):
    """The least depth for each entry of a dict of forms; NEVER or more where no value matches."""
    depths = {name: NEVER for name in forms}
    # Each turn finds what a value can be with one more name within names; the turn in which
    # nothing changes is the last one.
    while True:
        found = {name: min(NEVER, forms[name].depth_by(depths)) for name in forms}
        if found == depths:
            return depths
        depths = found


class Grammar:
    """Forms with names, the root under the name None. No name leads to itself, and none is missing."""

    def __init__(self, forms):
        self._forms = forms
        self._depths = least_depths(forms)
        # What was found out before, for forms or for tuples of form, level and more.
        self._expanded = {}
        self._reached = {}
        self._beginnings = {}
        self._least_sizes = {}
        self._ways = {}

    def root(self):
        """The root form."""
        return self._forms[None]

    def form_named(self, name):
        """The form with a name."""
        return self._forms[name]

    def depth_named(self, name):
        """The least depth of the form with a name."""
        return self._depths[name]

    def alternatives(self, form):
        """The alternatives of a form, which begin with one word each."""
        if form not in self._expanded:
            self._expanded[form] = form.expanded(self)
        return self._expanded[form]

    def fits(self, form, level):
        """Whether some value of a form can stand at a level."""
        if form not in self._reached:
            self._reached[form] = form.depth_by(self._depths)
        return self._reached[form] <= DEEPEST + 1 - level

    def beginnings(self, form, level):
        """The ranges of the kind bytes of a form at a level, and for each one the alternatives that begin with it."""
        if (form, level) not in self._beginnings:
            found = {}
            for one in self.alternatives(form):
                if self.fits(one, level):
                    for kind in one.kinds():
                        found.setdefault(kind, []).append(one)
            self._beginnings[(form, level)] = (ranges_of(list(found)), found)
        return self._beginnings[(form, level)]

    def sizes_by_kind(self, form, level):
        """Tuples of the least count of bytes of an item of a form at a level, and the kind byte that it begins with."""
        if (form, level) not in self._least_sizes:
            _, forms = self.beginnings(form, level)
            found = [(1 + body_of(self, form, level, kind).least_size(), kind) for kind in forms]
            self._least_sizes[(form, level)] = found
        return self._least_sizes[(form, level)]

    def least_size(self, form, level):
        """The least count of bytes of an item of a form at a level; some item must fit there."""
        size, _ = min(self.sizes_by_kind(form, level))
        return size

    def ways(self, form, level, most):
        """The ways through an item of a form at a level."""
        if (form, level, most) not in self._ways:
            _, forms = self.beginnings(form, level)
            found = no_way(most)
            for kind in forms:
                if most > 0:
                    found = either(found, later(body_of(self, form, level, kind).ways(most - 1), 1))
            self._ways[(form, level, most)] = found
        return self._ways[(form, level, most)]

    def is_met(self, form, value):
        """Whether a value matches a form."""
        return any([one.is_met_by(value, self) for one in self.alternatives(form)])

    def has_ambiguous_choice(self, form):
        """Whether the form is, or contains, a choice two of whose alternatives can begin alike."""
        if isinstance(form, Choice) and begin_alike(self.alternatives(form)):
            return True
        return any([self.has_ambiguous_choice(part) for part in form.parts()])


def start_of(form):
    """What tells a form from others where it begins: the word, and the number if it is of tags."""
    return WORDS[form.kinds()[0]], form.number if isinstance(form, Tagged) else None


def begin_alike(forms):
    """Whether two of the forms can begin alike."""
    starts = [start_of(form) for form in forms]
    for at, (word, number) in enumerate(starts):
        for other_word, other_number in starts[:at]:
            # No number of a tag stands for all numbers.
            if word == other_word and (number == other_number or None in (number, other_number)):
                return True
    return False


def grammar_of(schema):
    """The grammar of a schema, or that of all values for None."""
    return Grammar({None: Anything()}) if schema is None else schema.grammar()
