"""The items of documents that are known to be right: their events, values and lines."""

from shortestbytes.counts import code_at
from shortestbytes.kinds import FALSE, NEGATIVE, NONE, OCTETS, TEXT, TRUE, WORDS
from shortestbytes.leaves import text_of
from shortestbytes.values import document_row, hex_text, right_tag

CONSTANTS = {"none": None, "false": False, "true": True}
NEST_WORDS = ("list", "map", "tag")
MEASURED_WORDS = ("octets", "text")


def head_at(data, at):
    """The integer in the head of the item at an index, or None, and the index behind the head."""
    kind = data[at]
    if kind in (NONE, FALSE, TRUE):
        return None, at + 1
    number, end = code_at(data, at + 1, kind == NEGATIVE)
    return (-1 - number if kind == NEGATIVE else number), end


def worth_at(data, at):
    """The worth of the item at an index, and the index behind its head and content."""
    kind = data[at]
    number, end = head_at(data, at)
    if kind == OCTETS:
        return tuple(data[end:end + number]), end + number
    if kind == TEXT:
        return text_of(data[end:end + number]), end + number
    return number, end


def inner_items(word, worth, level):
    """The level of each item directly within an item, and whether it is a key; the first one last."""
    if word == "list":
        return [(level + 1, False)] * worth
    if word == "map":
        return [(level + 1, False), (level + 1, True)] * worth
    return [(level + 1, False)] if word == "tag" else []


def events_of(data):
    """The events of a document, a list."""
    found = []
    # The items that are still to come, the next one last.
    ahead = [(1, False)]
    at = 0
    while ahead:
        level, is_key = ahead.pop()
        word = WORDS[data[at]]
        worth, end = worth_at(data, at)
        found.append((at, level, is_key, word, worth))
        ahead.extend(list(inner_items(word, worth, level)))
        at = end
    return found


def built(word, worth, parts):
    """The value of an item from its event and the values directly within it, keys included."""
    if word == "list":
        return parts
    if word == "map":
        return {parts[at]: parts[at + 1] for at in range(0, len(parts), 2)}
    if word == "tag":
        return right_tag(worth, parts[0], document_row(parts[0]))
    return CONSTANTS.get(word, worth)


def value_of(data):
    """The value of a document."""
    values = []
    # From the last item on, so that all that is within a nest is there when its turn comes.
    for _, level, _, word, worth in events_of(data)[::-1]:
        begin = len(values) - len(inner_items(word, worth, level))
        parts = values[begin:]
        del values[begin:]
        values.append(built(word, worth, parts[::-1]))
    return values[0]


def depth_of(data):
    """The depth of the value of a document."""
    return max([level for _, level, _, word, _ in events_of(data) if word in NEST_WORDS], default=0)


def line_of(data, event):
    """The line of the listing of a document for an event."""
    start, level, is_key, word, worth = event
    _, end = head_at(data, start)
    head = hex_text(data[start:end])
    marks = ". " * (level - 1) + ("key " if is_key else "")
    told = len(worth) if word in MEASURED_WORDS else worth
    tail = "" if told is None else f" {told}"
    return f"{start:>6}  {head:<14}  {marks}{word}{tail}"
