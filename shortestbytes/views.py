"""Views, which find items and their parts in data without decoding it."""

from shortestbytes.counts import is_int
from shortestbytes.courses import followed
from shortestbytes.errors import BadPath, Unfinished, WrongByte
from shortestbytes.grammar import grammar_of
from shortestbytes.items import value_of, worth_at
from shortestbytes.kinds import LIST, MAP, OCTETS, TAG, TEXT, WORDS
from shortestbytes.leaves import is_key, leaf_row
from shortestbytes.skips import ALL_KINDS, key_end, key_place, looked_at, skipped
from shortestbytes.values import has_wrong_key, parts_of


def end_of(data, at=0):
    """The index behind the item that begins at an index, found by skipping."""
    return skipped(data, at, 1)


def copied(thing):
    """A copy of any value that has no list and no dict in common with it."""
    if isinstance(thing, (list, tuple)):
        found = [copied(item) for item in thing]
        return found if isinstance(thing, list) else tuple(found)
    if isinstance(thing, dict):
        pairs = list(thing.items()) if has_wrong_key(thing) else parts_of(thing)
        return {key: copied(part) for key, part in pairs}
    return thing


class Entries:
    """A copy of data that several views look at; it never changes."""

    def __init__(self, data):
        self.kept = tuple([copied(entry) for entry in data])


class View:
    """The item that begins at an index of data."""

    def __init__(self, data, at=0):
        self._entries = data if isinstance(data, Entries) else Entries(data)
        kind, number, inside = looked_at(self._entries.kept, at, ALL_KINDS)
        self.start = at
        self.kind = WORDS[kind]
        self.size = 1 if kind == TAG else number if kind in (OCTETS, TEXT, LIST, MAP) else 0
        self._inside = inside

    def __len__(self):
        return len(list(range(self.size)))

    def inside(self):
        """The index behind the head."""
        return self._inside

    def end(self):
        """The index behind the item."""
        return end_of(self._entries.kept, self.start)

    def piece(self):
        """The entries of the item as they stand in data, a new list."""
        return [copied(entry) for entry in self._entries.kept[self.start:self.end()]]

    def part(self, *path):
        """The view of the part at a path."""
        view = self
        for at, step in enumerate(path):
            start = view.part_start(step)
            if start is None:
                raise BadPath(at)
            view = View(self._entries, start)
        return view

    def part_start(self, step):
        """The index at which the part begins that a step leads to, or None if it leads nowhere."""
        if self.kind == "map":
            place = self.key_bounds(step) if is_key(step) else None
            return None if place is None or self._is_less(step, place) else place[1]
        if self.kind not in ("list", "tag") or not is_int(step) or not 0 <= step < self.size:
            return None
        at = self._inside
        for _ in range(step):
            at = end_of(self._entries.kept, at)
        return at

    def key_bounds(self, key):
        """Where the first key of a map that is not less than a key begins and ends, or None if there is none."""
        return key_place(self._entries.kept, self._inside, self.size, leaf_row(key))

    def _is_less(self, key, place):
        """Whether a key is less than the one in this place, which is not less than it."""
        begin, end = place
        return list(self._entries.kept[begin:end]) != leaf_row(key)

    def children(self):
        """The parts with their steps, one after another."""
        data = self._entries.kept
        at = self._inside
        for step in range(self.size if self.kind in ("list", "map", "tag") else 0):
            if step > 0:
                at = end_of(data, at)
            if self.kind == "map":
                begin, at = at, key_end(data, at)
                key, _ = worth_at(data, begin)
                yield key, View(self._entries, at)
            else:
                yield step, View(self._entries, at)

    def value(self):
        """The value of the item."""
        data = self._entries.kept
        end, is_whole = followed(data, self.start, grammar_of(None))
        if is_whole:
            return value_of(data[self.start:end])
        if end == len(data):
            raise Unfinished(end)
        raise WrongByte(end)
