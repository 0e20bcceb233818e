"""Houses joined by a door, and what can be heard at the door."""

from callsheard.certificates import last_places
from callsheard.house import House
from callsheard.logs import last_calls
from callsheard.paths import reached


def join_houses(first_house, second_house, door):
    """The house of both houses and a door from a room of the first one to a room of the second one.

    Raises BadHouse if there are more than 12 rooms in all.
    """
    moved = first_house.rooms
    doors = first_house.doors() + [(a + moved, b + moved) for a, b in second_house.doors()]
    return House(moved + second_house.rooms, doors + [(door[0], door[1] + moved)])


def ladder(house, log, room):
    """The list of the last calls that the room can hear, in the order of the log."""
    return [call for call in last_calls(log) if can_hear(house, log, room, call[0])]


def can_hear(house, log, room, caller):
    """True if a path leads from the room to a called room on which no room is called later than that one."""
    places = last_places(log)
    inside = [other for other in range(house.rooms) if places.get(other, -1) <= places[caller]]
    return caller in reached(house, room, inside)
