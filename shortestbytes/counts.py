"""Numbers and their codes."""

from shortestbytes.errors import BadNumber, Unfinished, WrongByte

MOST = 256 ** 63 - 1

# A number below FIRST_LONG is its own code; a code of more bytes begins with
# LONG plus the count of the bytes behind its first one.
FIRST_LONG = 192
LONG = 191
LAST_FIRST = 254


def is_int(thing):
    """Whether any value is an integer, which True and False are not."""
    return isinstance(thing, int) and not isinstance(thing, bool)


def is_byte(thing):
    """Whether any value is a byte."""
    return is_int(thing) and 0 <= thing <= 255


def is_number(thing):
    """Whether any value is a number."""
    return is_int(thing) and 0 <= thing <= MOST


def base_256(number):
    """The digits of a number in base 256, the most significant one first."""
    many = (number.bit_length() + 7) // 8
    return [(number >> (8 * place)) & 255 for place in range(many - 1, -1, -1)]


def number_code(number):
    """The code of a number, a new list of bytes."""
    if not is_number(number):
        raise BadNumber(number)
    if number < FIRST_LONG:
        return [number]
    digits = base_256(number)
    return [LONG + len(digits)] + digits


def code_size(first):
    """The count of bytes of a code that begins with this byte."""
    return 1 if first < FIRST_LONG else 1 + first - LONG


def least_second(first):
    """The least byte behind the first byte of a long code.

    A lesser one would make the code longer than its number needs.
    """
    return FIRST_LONG if first == LONG + 1 else 1


def codes_of_size(low, high, size):
    """How many of the numbers from low to high have a code of this many bytes."""
    if size == 0:
        return 0
    # The first number whose code has this size, and the first one whose code has a greater size.
    first = 0 if size == 1 else FIRST_LONG if size == 2 else 1 << (8 * (size - 2))
    behind = FIRST_LONG if size == 1 else 1 << (8 * (size - 1))
    return max(0, min(high + 1, behind) - max(low, first))


def byte_at(data, at, low, high):
    """The entry at an index of data, which must be a byte from low to high."""
    if at == len(data):
        raise Unfinished(at)
    entry = data[at]
    if not is_byte(entry) or not low <= entry <= high:
        raise WrongByte(at)
    return entry


def digit_at(data, at, low, high, is_turned):
    """The byte from low to high at an index of data; if it is turned, it stands there as 255 minus it."""
    if is_turned:
        return 255 - byte_at(data, at, 255 - high, 255 - low)
    return byte_at(data, at, low, high)


def code_at(data, at, is_turned):
    """The number whose code, turned or not, begins at an index of data, and the index behind the code."""
    first = digit_at(data, at, 0, LAST_FIRST, is_turned)
    end = at + code_size(first)
    if end == at + 1:
        return first, end
    number = digit_at(data, at + 1, least_second(first), 255, is_turned)
    for index in range(at + 2, end):
        number = number * 256 + digit_at(data, index, 0, 255, is_turned)
    return number, end


def number_at(data, at=0):
    """The number whose code begins at an index of data, and the index behind the code."""
    return code_at(data, at, False)
