"""Crossed pairs of two logs, and certificates that two logs are alike."""

from callsheard.logs import last_calls
from callsheard.paths import is_ascending, lies_in, reached


def last_places(log):
    """The place of the last call in each called room, by the room."""
    return {room: place for place, (room, _) in enumerate(log)}


def same_last_words(first, second):
    """True if two logs call the same rooms with the same last words."""
    return dict(last_calls(first)) == dict(last_calls(second))


def crossed_pairs(first, second):
    """The ascending list of the crossed pairs of two logs with the same last words."""
    words = dict(last_calls(first))
    before = last_places(first)
    after = last_places(second)
    rooms = sorted(words)
    return [
        (x, y) for x in rooms for y in rooms
        if words[x] != words[y] and before[x] > before[y] and after[x] < after[y]
    ]


def hall(house, first, second, pair):
    """The ascending list of the rooms of the hall of a crossed pair, also in a one-way house."""
    x, y = pair
    before = last_places(first)
    after = last_places(second)
    return [
        room for room in range(house.rooms)
        if before.get(room, -1) <= before[x] and after.get(room, -1) <= after[y]
    ]


def alike_certificate(house, first, second):
    """The least certificate of alikeness, a list, or None if the logs are not alike."""
    if not same_last_words(first, second):
        return None
    entries = []
    for x, y in crossed_pairs(first, second):
        rooms = reached(house, x, hall(house, first, second, (x, y)))
        if y in rooms:
            return None
        entries.append((x, y, rooms))
    return entries


def check_certificate(house, first, second, certificate):
    """True if the list is a certificate of alikeness of the two logs."""
    if not same_last_words(first, second):
        return False
    if [(x, y) for x, y, _ in certificate] != crossed_pairs(first, second):
        return False
    for x, y, rooms in certificate:
        inside = hall(house, first, second, (x, y))
        if y in rooms or not is_closed(house.neighbours, x, rooms, inside):
            return False
    return True


def is_closed(steps, start, rooms, inside):
    """True if the ascending rooms lie inside, hold the start, and hold all rooms inside one step from them.

    steps is a function that gives the list of the rooms to which one step leads from a room.
    """
    if start not in rooms or not is_ascending(rooms) or not lies_in(rooms, inside):
        return False
    return all([other in rooms or other not in inside for room in rooms for other in steps(room)])
