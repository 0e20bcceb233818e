"""Logs that are alike: whatever doors are open, each room keeps the same word after both."""

from callsheard.certificates import crossed_pairs, hall
from callsheard.logs import word_of, words_of
from callsheard.paths import first_path


def parting_path(house, first, second):
    """The first parting path of two logs, or None if they are alike."""
    room = unlike_room(house, first, second)
    if room is not None:
        return (room,)
    best = None
    for x, y in crossed_pairs(first, second):
        inside = hall(house, first, second, (x, y))
        for path in (first_path(house, x, y, inside), first_path(house, y, x, inside)):
            if path is not None and (best is None or (len(path), path) < (len(best), best)):
                best = path
    return best


def unlike_room(house, first, second):
    """The least room with unlike last words in two logs, or None."""
    words = words_of(house, first)
    others = words_of(house, second)
    for room in range(house.rooms):
        if words[room] != others[room]:
            return room
    return None


def alike(house, first, second):
    """True if the logs are alike in the house."""
    return parting_path(house, first, second) is None


def is_parting_path(house, first, second, path):
    """True if the tuple of rooms is a parting path of the two logs."""
    if not path or len(set(path)) != len(path):
        return False
    if not all([house.has_door(a, b) for a, b in zip(path, path[1:])]):
        return False
    return word_of(first, path) != word_of(second, path)
