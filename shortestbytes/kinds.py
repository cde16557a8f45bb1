"""The kind bytes, with which the documents of values begin, and the words of the kinds."""

NONE = 1
FALSE = 2
TRUE = 3
NEGATIVE = 4
INTEGER = 5
OCTETS = 6
TEXT = 7
LIST = 8
MAP = 9
TAG = 10

WORDS = {
    1: "none", 2: "false", 3: "true", 4: "integer", 5: "integer",
    6: "octets", 7: "text", 8: "list", 9: "map", 10: "tag",
}
