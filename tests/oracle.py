"""Another way to say what documents a schema has: all of them, written out one by one.

A plan says the same as a shape: a tuple of the word of the shape and what it is made of. The two
dicts of a record are tuples of pairs; a key in them is a document.
"""

import itertools
import random

from shortestbytes.errors import Ambiguous, BadShape, Barren, Circular
from shortestbytes.schemas import Schema
from shortestbytes.shapes import Shape

SIGNS = [9, 10, *range(32, 37), *range(38, 127)]


class TooMany(Exception):
    """The documents of a plan are too many to write them out."""


def code(number):
    """The code of a number, by the words of the document."""
    if number < 192:
        return (number,)
    size = 1
    while 256 ** size <= number:
        size += 1
    return (191 + size, *number.to_bytes(size, "big"))


def integer(number):
    """The document of an integer."""
    if number >= 0:
        return (5, *code(number))
    return (4, *(255 - byte for byte in code(-1 - number)))


def contents(kind, least, most):
    """The documents of the octets or texts with some lengths, in ascending order."""
    signs = SIGNS if kind == 7 else range(256)
    for size in range(least, most + 1):
        for content in itertools.product(signs, repeat=size):
            yield (kind, *code(size), *content)


def joined(head, choices):
    """The rows that begin with a head and then have one of the rows of each choice."""
    for parts in itertools.product(*choices):
        yield head + tuple(itertools.chain.from_iterable(parts))


class Oracle:
    """Writes out the documents of plans, as far as a number of rows in all."""

    def __init__(self, names, limit):
        self.names = names
        self.left = limit
        self.known = {}

    def documents(self, plan, budget=24):
        """The documents of the values for a plan that are at most as deep as the budget says, as a list."""
        if (plan, budget) not in self.known:
            found = []
            for row in self.written(plan, budget):
                self.left -= 1
                if self.left < 0:
                    raise TooMany
                found.append(row)
            self.known[(plan, budget)] = found
        return self.known[(plan, budget)]

    def written(self, plan, budget):
        word, *told = plan
        if word == "constant":
            yield ({None: 1, False: 2, True: 3}[told[0]],)
        elif word == "integers":
            yield from (integer(number) for number in range(told[0], told[1] + 1))
        elif word in ("octets", "texts"):
            yield from contents(6 if word == "octets" else 7, *told)
        elif word == "named":
            yield from self.documents(self.names[told[0]], budget)
        elif word == "choice":
            for one in told:
                yield from self.documents(one, budget)
        elif budget > 0:
            yield from getattr(self, word)(budget - 1, *told)

    def rows(self, budget, *plans):
        yield from joined((8, *code(len(plans))), [self.documents(plan, budget) for plan in plans])

    def tagged(self, budget, number, plan):
        yield from joined((10, *code(number)), [self.documents(plan, budget)])

    def lists(self, budget, plan, least, most):
        for size in range(least, most + 1):
            yield from joined((8, *code(size)), [self.documents(plan, budget)] * size if size else [])

    def maps(self, budget, key, plan, least, most):
        ascending = sorted(self.documents(key, budget))
        worths = self.documents(plan, budget)
        for size in range(least, most + 1 if worths else 1):
            for chosen in itertools.combinations(ascending, size):
                choices = [choice for one in chosen for choice in ([one], worths)]
                yield from joined((9, *code(size)), choices)

    def record(self, budget, required, optional):
        for size in range(len(optional) + 1):
            for extra in itertools.combinations(optional, size):
                pairs = sorted(required + extra)
                choices = [choice for key, plan in pairs for choice in ([key], self.documents(plan, budget))]
                yield from joined((9, *code(len(pairs))), choices)


def key_value(row):
    """The key with a short document."""
    if row[0] == 7:
        return bytes(row[2:]).decode("ascii")
    if row[0] == 6:
        return tuple(row[2:])
    digits = [255 - byte for byte in row[1:]] if row[0] == 4 else list(row[1:])
    number = digits[0] if len(digits) == 1 else int.from_bytes(bytes(digits[1:]), "big")
    return -1 - number if row[0] == 4 else number


def shape(plan):
    """The shape that says the same as a plan."""
    word, *told = plan
    if word == "constant":
        return Shape.just(told[0])
    if word in ("integers", "octets", "texts", "named"):
        return getattr(Shape, word)(*told)
    if word == "rows":
        return Shape.rows(*[shape(one) for one in told])
    if word == "tagged":
        return Shape.tagged(told[0], shape(told[1]))
    if word == "lists":
        return Shape.lists(shape(told[0]), least=told[1], most=told[2])
    if word == "maps":
        return Shape.maps(shape(told[0]), shape(told[1]), least=told[2], most=told[3])
    if word == "record":
        required, optional = ({key_value(key): shape(one) for key, one in pairs} for pairs in told)
        return Shape.record(required, optional=optional)
    found = shape(told[0])
    for one in told[1:]:
        found = found | shape(one)
    return found


def beginnings(found):
    """For each beginning of one of the rows the bytes that come next in some of them."""
    alive = {}
    for row in found:
        for at in range(len(row)):
            alive.setdefault(row[:at], set()).add(row[at])
        alive.setdefault(row, set())
    return alive


EDGES = [-65794, -65793, -65792, -449, -448, -258, -257, -194, -193, -192, -2, -1, 0, 1, 189, 190, 191, 192, 193,
         254, 255, 256, 257, 447, 448, 65534, 65535, 65536, 65793]
KEYS = [integer(number) for number in EDGES] + [
    (6, 0), (6, 1, 0), (6, 1, 255), (6, 2, 0, 0), (7, 0), (7, 1, 97), (7, 1, 98), (7, 2, 97, 97), (7, 2, 97, 98),
]


class Planner:
    """Makes plans by chance, the same ones for the same source."""

    def __init__(self, chance, names):
        self.chance = chance
        self.names = names

    def plan(self, depth):
        words = ["constant", "integers", "integers", "texts", "octets", "named"]
        if depth > 0:
            words += ["rows", "lists", "maps", "maps", "record", "record", "tagged", "choice", "choice"]
        return self.of(self.chance.choice(words), depth)

    def plans(self, many, depth):
        return [self.plan(depth - 1) for _ in range(many)]

    def of(self, word, depth):
        choice = self.chance.choice
        if word == "constant":
            return word, choice([None, False, True])
        if word == "integers":
            low = choice(EDGES)
            return word, low, low + choice([0, 1, 2, 3, 5])
        if word in ("texts", "octets"):
            return (word, *choice([(0, 0), (0, 0), (0, 0), (0, 0), (0, 0), (0, 1), (1, 1)]))
        if word == "named":
            return word, choice(self.names)
        if word in ("rows", "choice"):
            return (word, *self.plans(choice([0, 1, 2, 2, 3] if word == "rows" else [2, 2, 3]), depth))
        if word == "tagged":
            return (word, choice([0, 3, 191, 192, 300, 301]), *self.plans(1, depth))
        least = choice([0, 0, 1, 2])
        if word == "lists":
            return (word, *self.plans(1, depth), least, least + choice([0, 1, 2]))
        if word == "maps":
            key = self.of("integers", 0)
            if self.chance.random() < 0.3:
                key = ("choice", key, self.of(choice(["texts", "octets"]), 0))
            return (word, key, *self.plans(1, depth), least, least + choice([0, 1, 2, 6]))
        keys = self.chance.sample(KEYS, choice([0, 1, 2, 3, 4]))
        pairs = tuple(zip(keys, self.plans(len(keys), depth)))
        split = self.chance.randint(0, len(keys))
        return word, pairs[:split], pairs[split:]


def padded(depth, shape):
    """The shape below so many tags."""
    for _ in range(depth):
        shape = Shape.tagged(7, shape)
    return shape


def drawn_plans(seeds):
    """Plans by chance: the chance, the root and the names."""
    for seed in seeds:
        chance = random.Random(seed)
        planner = Planner(chance, ["a", "b", "c"])
        names = {name: planner.plan(2) for name in planner.names}
        yield chance, planner.plan(chance.choice([1, 2, 3])), names


def made(root, names, depth, limit):
    """The schema of a plan below so many tags, and its documents; None if they are too many or there is no such schema."""
    try:
        schema = Schema(padded(depth, shape(root)), {name: shape(names[name]) for name in names})
        found = Oracle(names, limit).documents(root, 24 - depth)
    except (BadShape, Circular, Ambiguous, TooMany):
        return None
    return schema, sorted((10, 7) * depth + row for row in found)


def drawn_schemas(seeds, depths, limit):
    """Schemas with few documents by chance: the chance, the schema, and all its documents in ascending order."""
    for chance, root, names in drawn_plans(seeds):
        for depth in depths:
            try:
                found = made(root, names, depth, limit)
            except Barren:
                continue
            if found is not None:
                yield chance, *found


def code_end(row, at):
    """The number whose code begins at an index of a right row, and the index behind the code."""
    if row[at] < 192:
        return row[at], at + 1
    end = at + row[at] - 190
    return int.from_bytes(bytes(row[at + 1:end]), "big"), end


def debt(row, taken):
    """The debt by point 19 behind so many bytes of a document, if each code that is not whole becomes that of the document."""
    return debt_of_item(row, 0, taken)[0]


def debt_of_item(row, at, taken):
    """The debt of an item and all within it, and the index behind it."""
    kind = row[at]
    if kind in (1, 2, 3):
        return 0, at + 1
    if kind == 4:
        return 0, at + 2 + max(0, 64 - row[at + 1])
    number, end = code_end(row, at + 1)
    if kind == 5:
        return 0, end
    if kind in (6, 7):
        return (number - min(number, max(0, taken - end)) if at < taken else 0), end + number
    total = 0
    for _ in range(1 if kind == 10 else number):
        if kind != 10 and at < taken <= end:
            total += 1
        for _ in range(2 if kind == 9 else 1):
            more, end = debt_of_item(row, end, taken)
            total += more
    return total, end
