"""Things that are listed in an order and numbered from 0."""

from callsheard.errors import OutOfRange


def need_number(k, count):
    """Raise OutOfRange if k is not the number of one of so many things."""
    if not 0 <= k < count:
        raise OutOfRange(count)


def split_number(k, counts):
    """The numbers of things of several kinds, so many of each kind, in the choice of one of each with the number k.

    Choices are listed by their thing of the first kind, those with the same one by that of the second kind, and so on.
    """
    numbers = []
    for count in reversed(counts):
        numbers.append(k % count)
        k = k // count
    return numbers[::-1]


def joined_number(numbers, counts):
    """The number of the choice of things with these numbers, the other way round."""
    k = 0
    for number, count in zip(numbers, counts):
        k = k * count + number
    return k


def multiplied(numbers):
    """The product of some numbers."""
    result = 1
    for number in numbers:
        result = result * number
    return result
