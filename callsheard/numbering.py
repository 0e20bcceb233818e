"""Things that are listed in an order and numbered from 0."""

from callsheard.errors import OutOfRange


def need_number(k, count):
    """Raise OutOfRange if k is not the number of one of so many things."""
    if not 0 <= k < count:
        raise OutOfRange(count)
