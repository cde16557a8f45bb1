"""The kind bytes, with which the documents of values begin."""

NONE = 1
FALSE = 2
TRUE = 3
NEGATIVE = 4
INTEGER = 5
OCTETS = 6
TEXT = 7
LIST = 8
MAP = 9
TAG = 10
