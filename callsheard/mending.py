"""Rooms in which the same calls, at the end of two logs, make these logs alike."""

from callsheard.alike import parting_path
from callsheard.house import need_small
from callsheard.paths import room_sets


def mends(house, first, second, rooms):
    """True if the set of rooms mends the two logs. Raises TooLarge."""
    need_small(house)
    return path_left(house, first, second, rooms) is None


def path_left(house, first, second, rooms):
    """The first parting path that holds none of the rooms, or None."""
    calls = [(room, "mend") for room in rooms]
    return parting_path(house, first + calls, second + calls)


def mending_answer(house, first, second):
    """The pair of the fewest rooms that mend the two logs, and of parting paths that need so many. Raises TooLarge."""
    need_small(house)
    paths = []
    for rooms in room_sets(house.rooms):
        # A path that misses a set of rooms shows that these rooms do not mend. In the end each lesser set is missed.
        if all([meets(path, rooms) for path in paths]):
            path = path_left(house, first, second, rooms)
            if path is None:
                return (rooms, paths)
            paths.append(path)


def meets(path, rooms):
    """True if one of the rooms is on the path."""
    return any([room in rooms for room in path])
