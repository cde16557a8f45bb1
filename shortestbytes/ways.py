"""In how many ways something can be done: lists in which the entry at index k counts the ways that take k bytes."""

from math import comb


def no_way(most):
    """Nothing can be done, with up to so many bytes."""
    return [0] * (most + 1)


def one_way(most):
    """There is nothing to do, which takes no byte."""
    return [1] + [0] * most


def either(one, two):
    """The ways to do one of two things; both lists have the same length."""
    return [left + right for left, right in zip(one, two)]


def both(one, two):
    """The ways to do one thing and then another one, up to the bytes that both lists go to."""
    most = min(len(one), len(two)) - 1
    found = no_way(most)
    for at in range(most + 1):
        if one[at]:
            for other in range(most + 1 - at):
                found[at + other] += one[at] * two[other]
    return found


def later(ways, by):
    """The ways if so many more bytes come before."""
    return [0] * by + ways


def repeated(ways, many):
    """The ways to do the same thing so many times, each of which takes a byte or more."""
    most = len(ways) - 1
    if many > most:
        return no_way(most)
    found = one_way(most)
    for _ in range(many):
        found = both(found, ways)
    return found


def sets_of(ways, many):
    """How many sets of so many different ones of the ways there are; each way takes a byte or more."""
    most = len(ways) - 1
    if many > most:
        return no_way(most)
    # At each index those of sets with so many ways, of the ways that were looked at.
    table = [one_way(most)] + [no_way(most) for _ in range(many)]
    for size in range(1, most + 1):
        if ways[size]:
            for count in range(many, 0, -1):
                for new in range(1, min(count, most // size) + 1):
                    chosen = no_way(most)
                    chosen[new * size] = comb(ways[size], new)
                    table[count] = either(table[count], both(chosen, table[count - new]))
    return table[many]
