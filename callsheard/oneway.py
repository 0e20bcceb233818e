"""One-way houses, in which a door leads from one room to another one but not back."""

from callsheard.alike import unlike_room
from callsheard.certificates import crossed_pairs, hall, is_closed, same_last_words
from callsheard.house import check_room_count, checked_doors
from callsheard.logs import word_of
from callsheard.paths import first_paths


class OneWayHouse:
    """A one-way house with the rooms from 0 to rooms - 1."""

    def __init__(self, rooms, doors):
        check_room_count(rooms)
        self.rooms = rooms
        self._doors = checked_doors(rooms, doors)
        self._following = [[] for _ in range(rooms)]
        for a, b in self._doors:
            self._following[a].append(b)

    def doors(self):
        """The list of the one-way doors."""
        return list(self._doors)

    def following(self, room):
        """The ascending list of the rooms to which a door leads from the room."""
        return list(self._following[room])


def both_ways(house):
    """The one-way house with each door of the house in both directions."""
    doors = house.doors()
    return OneWayHouse(house.rooms, doors + [(b, a) for a, b in doors])


def hear_one_way(one_way_house, log, opening):
    """A list with the word that each room keeps after the log, or None."""
    rooms = list(range(one_way_house.rooms))
    open_house = OneWayHouse(one_way_house.rooms, opening)
    words = [None for _ in rooms]
    for caller, word in log:
        for room in first_paths(open_house.following, caller, rooms):
            words[room] = word
    return words


def parting_fork(one_way_house, first, second):
    """The first parting fork of two logs, or None if they are alike."""
    room = unlike_room(one_way_house, first, second)
    if room is not None:
        return (room, (room,), (room,))
    forks = []
    for pair in crossed_pairs(first, second):
        forks.extend(forks_of_pair(one_way_house, first, second, pair))
    return min(forks, key=lambda fork: (len(fork[1]) + len(fork[2]), fork), default=None)


def forks_of_pair(one_way_house, first, second, pair):
    """The first forks of which the paths come from the two rooms of a crossed pair and stay in its hall."""
    x, y = pair
    inside = hall(one_way_house, first, second, pair)
    from_x = first_paths(one_way_house.following, x, inside)
    from_y = first_paths(one_way_house.following, y, inside)
    forks = []
    for room, path in from_x.items():
        if room in from_y:
            forks.append((room, path, from_y[room]))
            forks.append((room, from_y[room], path))
    return forks


def alike_one_way(one_way_house, first, second):
    """True if the logs are alike in the one-way house."""
    return parting_fork(one_way_house, first, second) is None


def one_way_certificate(one_way_house, first, second):
    """The least one-way certificate, a list, or None if the logs are not alike."""
    if not same_last_words(first, second):
        return None
    entries = []
    for x, y in crossed_pairs(first, second):
        inside = hall(one_way_house, first, second, (x, y))
        left = tuple(sorted(first_paths(one_way_house.following, x, inside)))
        right = tuple(sorted(first_paths(one_way_house.following, y, inside)))
        if share_room(left, right):
            return None
        entries.append((x, y, left, right))
    return entries


def share_room(left, right):
    """True if a room belongs to both sets."""
    return any([room in right for room in left])


def check_one_way(one_way_house, first, second, certificate):
    """True if the list is a one-way certificate of the two logs."""
    if not same_last_words(first, second):
        return False
    if [(x, y) for x, y, _, _ in certificate] != crossed_pairs(first, second):
        return False
    for x, y, left, right in certificate:
        inside = hall(one_way_house, first, second, (x, y))
        if share_room(left, right):
            return False
        for start, rooms in ((x, left), (y, right)):
            if not is_closed(one_way_house.following, start, rooms, inside):
                return False
    return True


def is_parting_fork(one_way_house, first, second, fork):
    """True if the triple is a parting fork of the two logs."""
    room, left, right = fork
    if not leads_to(one_way_house, left, room) or not leads_to(one_way_house, right, room):
        return False
    rooms = sorted(set(left + right))
    return word_of(first, rooms) != word_of(second, rooms)


def leads_to(one_way_house, path, goal):
    """True if the tuple of rooms is a one-way path to the goal."""
    if not path or len(set(path)) != len(path) or path[-1] != goal:
        return False
    return all([b in one_way_house.following(a) for a, b in zip(path, path[1:])])
