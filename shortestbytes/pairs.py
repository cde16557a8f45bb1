"""The pairs of a map that are still to come: their keys, the forms of their values, and the ways through them.

Pairs never change; `behind` gives those behind a key.
"""

from shortestbytes.keyspaces import key_scan, ways_of_spans
from shortestbytes.scans import RowScan
from shortestbytes.ways import both, either, later, no_way, one_way, repeated, sets_of


class ShapedPairs:
    """Pairs whose keys are those of a key space, and whose values have one form and stand at one level.

    `row` is that of the key before them, and empty at the beginning.
    """

    def __init__(self, grammar, space, inner, level, row=()):
        self._grammar = grammar
        self._space = space
        self._inner = inner
        self._level = level
        self._row = list(row)

    def key_scan(self, left):
        """The way through the next key, behind which so many pairs come."""
        return key_scan(self._space.behind(self._row, left))

    def behind(self, row):
        """The pairs behind the key with this row."""
        return ShapedPairs(self._grammar, self._space, self._inner, self._level, row)

    def value_form(self, row):
        """The form of the value of the key with this row, which is the key that came next."""
        return self._inner

    def least_size(self, many):
        """The least count of bytes of so many pairs."""
        keys = sum([size * count for size, count in self._space.shortest(self._row, many)])
        return keys + many * self._grammar.least_size(self._inner, self._level) if many > 0 else 0

    def short(self, key, left):
        """The bytes with which short pairs go on within this key, behind which so many pairs come."""
        if not key.row():
            return self._space.short_beginning(self._row, left + 1)
        # The least key leaves all others.
        return [key.ranges()[0][0]]

    def ways(self, taken, many, most):
        """The ways to go on with so many pairs, if so many bytes of the first key were taken."""
        if many == 0:
            return one_way(most)
        if many > most:
            return no_way(most)
        key = key_scan(self._space.behind(self._row, 0))
        for byte in taken:
            key = key.after(byte)
        begun = key.ways(most)
        if not any(begun):
            return no_way(most)
        # The sets of keys whose first one begins with the bytes taken are all sets of these keys
        # and greater ones, without those of greater ones alone.
        greater = ways_of_spans(key.spans_behind(), len(taken) + most)
        all_sets = sets_of(either(later(begun, len(taken)), greater), many)
        sets = [one - other for one, other in zip(all_sets, sets_of(greater, many))]
        return both(sets[len(taken):], repeated(self._grammar.ways(self._inner, self._level, most), many))


class ListedPairs:
    """Pairs whose possible keys are listed in ascending order: tuples of row, form, and whether it is required.

    The values stand at one level; the keys before the index `at` cannot come any more.
    """

    def __init__(self, grammar, entries, level, at=0):
        self._grammar = grammar
        self._entries = entries
        self._level = level
        self._at = at

    def key_scan(self, left):
        """The way through the next key, behind which so many pairs come."""
        return RowScan([self._entries[at][0] for at in self._possible() if self._leaves(at + 1, left)])

    def _possible(self):
        """The indexes of the keys up to the first required one, which cannot be passed."""
        found = []
        for at in range(self._at, len(self._entries)):
            found.append(at)
            if self._entries[at][2]:
                break
        return found

    def _leaves(self, at, left):
        """Whether just so many pairs can come from an index on."""
        needed = len([1 for _, _, is_required in self._entries[at:] if is_required])
        return needed <= left <= len(self._entries) - at

    def _index_of(self, row):
        """The index of the key with this row."""
        return [key for key, _, _ in self._entries].index(row)

    def behind(self, row):
        """The pairs behind the key with this row."""
        return ListedPairs(self._grammar, self._entries, self._level, self._index_of(row) + 1)

    def value_form(self, row):
        """The form of the value of the key with this row, which is the key that came next."""
        return self._entries[self._index_of(row)][1]

    def _pair_size(self, at):
        """The least count of bytes of the pair at an index."""
        row, form, _ = self._entries[at]
        return len(row) + self._grammar.least_size(form, self._level)

    def least_size(self, many):
        """The least count of bytes of so many pairs."""
        ahead = range(self._at, len(self._entries))
        required = [self._pair_size(at) for at in ahead if self._entries[at][2]]
        optional = sorted([self._pair_size(at) for at in ahead if not self._entries[at][2]])
        return sum(required) + sum(optional[:many - len(required)])

    def short(self, key, left):
        """The bytes with which short pairs go on within this key, behind which so many pairs come."""
        sizes = [(self._size_with(row, left), row) for row in key.rows_left()]
        _, row = min(sizes)
        return row[len(key.row()):]

    def _size_with(self, row, left):
        """The least count of bytes of the pair of this key and so many pairs behind it."""
        return self._pair_size(self._index_of(row)) + self.behind(row).least_size(left)

    def ways(self, taken, many, most):
        """The ways to go on with so many pairs, if so many bytes of the first key were taken."""
        if not taken:
            return self._ways_from(self._at, many, most)
        found = no_way(most)
        for at in self._possible():
            row = self._entries[at][0]
            if row[:len(taken)] == taken:
                behind = self._ways_from(at + 1, many - 1, most)
                found = either(found, both(self._pair_ways(at, len(taken), most), behind))
        return found

    def _pair_ways(self, at, taken, most):
        """The ways through the pair at an index, so many bytes of whose key were taken."""
        row, form, _ = self._entries[at]
        missing = len(row) - taken
        if missing > most:
            return no_way(most)
        return later(self._grammar.ways(form, self._level, most - missing), missing)

    def _ways_from(self, begin, many, most):
        """The ways through so many pairs from an index on."""
        if not self._leaves(begin, many) or many > most:
            return no_way(most)
        # At each index the ways through so many pairs of those that were looked at, from the last one on.
        table = [one_way(most)] + [no_way(most) for _ in range(many)]
        for at in range(len(self._entries) - 1, begin - 1, -1):
            pair = self._pair_ways(at, 0, most)
            without = no_way(most)
            for count in range(many, -1, -1):
                kept = without if self._entries[at][2] else table[count]
                table[count] = either(kept, both(pair, table[count - 1])) if count > 0 else kept
        return table[many]
