"""Houses: rooms, and the doors that join some of them."""

from callsheard.errors import BadHouse, TooLarge


class House:
    """A house with the rooms from 0 to rooms - 1."""

    MOST_ROOMS = 12
    SMALL_ROOMS = 6

    def __init__(self, rooms, doors):
        check_room_count(rooms)
        self.rooms = rooms
        self._doors = checked_doors(rooms, [(min(a, b), max(a, b)) for a, b in doors])
        self._near = [[] for _ in range(rooms)]
        # Doors (a, room) with a < room come before doors (room, b), so each list ends up ascending.
        for a, b in self._doors:
            self._near[a].append(b)
            self._near[b].append(a)

    @property
    def door_count(self):
        """The number of doors."""
        return len(self._doors)

    def doors(self):
        """The list of the doors."""
        return list(self._doors)

    def neighbours(self, room):
        """The ascending list of the rooms that a door joins to the room."""
        return list(self._near[room])

    def has_door(self, a, b):
        """True if a door joins the two rooms."""
        return b in self._near[a]

    @staticmethod
    def corridor(rooms):
        """A house in which a door joins each room to the next one."""
        check_room_count(rooms)
        return House(rooms, corridor_doors(rooms))

    @staticmethod
    def ring(rooms):
        """A corridor of which the ends are joined, too, if there are 3 or more rooms."""
        check_room_count(rooms)
        closing = [(0, rooms - 1)] if rooms >= 3 else []
        return House(rooms, corridor_doors(rooms) + closing)

    @staticmethod
    def star(rooms):
        """A house in which a door joins room 0 to each other room."""
        check_room_count(rooms)
        return House(rooms, [(0, room) for room in range(1, rooms)])

    @staticmethod
    def full(rooms):
        """A house with all doors."""
        check_room_count(rooms)
        return House(rooms, [(a, b) for b in range(rooms) for a in range(b)])


def check_room_count(rooms):
    """Raise BadHouse(-1) if no house has that many rooms."""
    if not 1 <= rooms <= House.MOST_ROOMS:
        raise BadHouse(-1)


def checked_doors(rooms, doors):
    """The doors in ascending order; raise BadHouse with the place of the first one that cannot be there."""
    seen = set()
    for place, (a, b) in enumerate(doors):
        if not (0 <= a < rooms and 0 <= b < rooms) or a == b or (a, b) in seen:
            raise BadHouse(place)
        seen.add((a, b))
    return sorted(seen)


def corridor_doors(rooms):
    """The doors between neighbours in a corridor."""
    return [(room, room + 1) for room in range(rooms - 1)]


def need_small(house):
    """Raise TooLarge if the house is not small."""
    if house.rooms > House.SMALL_ROOMS:
        raise TooLarge(house.rooms)
