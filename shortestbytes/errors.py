"""The errors of the package, each with its one field as an attribute."""


class ShortestBytesError(ValueError):
    """Any error of the package."""


class BadNumber(ShortestBytesError):
    """A thing that is not a number was given as one."""

    def __init__(self, number):
        self.number = number


class BadValue(ShortestBytesError):
    """A thing is not a value; the path leads to its first bad part."""

    def __init__(self, path):
        self.path = path


class WrongByte(ShortestBytesError):
    """The entry at this index cannot stand where it stands."""

    def __init__(self, at):
        self.at = at


class Unfinished(ShortestBytesError):
    """The entries end, after this many, before what they began."""

    def __init__(self, at):
        self.at = at


class TooDeep(ShortestBytesError):
    """A value would have this depth, which is more than a value may have."""

    def __init__(self, reached):
        self.reached = reached


class BadItem(ShortestBytesError):
    """The item with this index cannot come where it came."""

    def __init__(self, at):
        self.at = at


class BadPath(ShortestBytesError):
    """The step at this position of a path leads nowhere."""

    def __init__(self, at):
        self.at = at


class BadDeed(ShortestBytesError):
    """The thing at this index is not a deed."""

    def __init__(self, at):
        self.at = at


class DuplicateKey(ShortestBytesError):
    """The key at this index equals an earlier key of its map."""

    def __init__(self, at):
        self.at = at


class BadShape(ShortestBytesError):
    """The method with this word was given arguments that make no shape."""

    def __init__(self, word):
        self.word = word


class UnknownName(ShortestBytesError):
    """A schema mentions this name and does not have it."""

    def __init__(self, name):
        self.name = name


class Circular(ShortestBytesError):
    """This name of a schema leads to itself."""

    def __init__(self, name):
        self.name = name


class Ambiguous(ShortestBytesError):
    """The shape of this name contains a choice whose alternatives can begin alike."""

    def __init__(self, name):
        self.name = name


class Barren(ShortestBytesError):
    """No value matches the shape of this name."""

    def __init__(self, name):
        self.name = name


class TooLong(ShortestBytesError):
    """So much is missing that a completion would be too long."""

    def __init__(self, debt):
        self.debt = debt


class NoDocument(ShortestBytesError):
    """There is no document with this number."""

    def __init__(self, number):
        self.number = number
