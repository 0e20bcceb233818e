"""Paths, and sets of rooms that hang together."""

from callsheard.house import need_small


def pieces(house, rooms):
    """The list of the pieces of a set of rooms, in ascending order of their least rooms."""
    found = []
    left = sorted(rooms)
    while left:
        piece = reached(house, left[0], left)
        found.append(piece)
        left = [room for room in left if room not in piece]
    return found


def is_part(house, rooms):
    """True if the set of rooms is nonempty and hangs together."""
    return len(pieces(house, rooms)) == 1


def all_parts(house):
    """The list of all parts of a small house, by their number of rooms."""
    need_small(house)
    return [rooms for rooms in room_sets(house.rooms) if is_part(house, rooms)]


def room_sets(count):
    """The list of all sets of so many rooms, as tuples, by their number of rooms."""
    found = [()]
    for room in range(count):
        found = found + [rooms + (room,) for rooms in found]
    return sorted(found, key=lambda rooms: (len(rooms), rooms))


def reached(house, start, inside):
    """The ascending tuple of all rooms to which a path inside the set leads from the start."""
    return tuple(sorted(first_paths(house.neighbours, start, inside)))


def first_path(house, start, goal, inside):
    """The first path inside the set from the start to the goal, or None."""
    return first_paths(house.neighbours, start, inside).get(goal)


def first_paths(steps, start, inside):
    """The first path from the start to each room that a path inside the set leads to, by that room.

    steps is a function that gives the ascending list of the rooms to which one step leads from a room.
    """
    paths = {}
    if start in inside:
        paths[start] = (start,)
    waiting = list(paths)
    while waiting:
        # Rooms wait in the order of their first paths, so the first room that leads
        # to another one is the last but one room of the first path to that one.
        room = waiting.pop(0)
        for other in steps(room):
            if other in inside and other not in paths:
                paths[other] = paths[room] + (other,)
                waiting.append(other)
    return paths


def path_doors(path):
    """The ascending list of the doors along a path."""
    return sorted([(min(a, b), max(a, b)) for a, b in zip(path, path[1:])])


def is_ascending(rooms):
    """True if the rooms ascend, without duplicates."""
    return all(a < b for a, b in zip(rooms, rooms[1:]))


def lies_in(rooms, others):
    """True if all the rooms belong to the other set of rooms."""
    return all(room in others for room in rooms)
