"""Rooms that are taken out of a house or put into it. A house that would have no room, or 13, is refused by House."""

from callsheard.forms import form_of, plain_log
from callsheard.house import House


def house_without(house, room):
    """The house without the room. Raises BadHouse if it is the only one."""
    doors = [(new_number(a, room), new_number(b, room)) for a, b in house.doors() if room not in (a, b)]
    return House(house.rooms - 1, doors)


def new_number(other, room):
    """The number that another room has after a room is taken out."""
    return other - 1 if other > room else other


def form_without(house, form, room):
    """The form without the room. Raises BadHouse if it is the only one."""
    left = house_without(house, room)
    log = [(new_number(other, room), word) for other, word in plain_log(form) if other != room]
    return form_of(left, log)


def house_with(house, neighbours):
    """The house with a further room that has doors to a set of rooms. Raises BadHouse if there are 12 rooms already."""
    return House(house.rooms + 1, house.doors() + [(room, house.rooms) for room in neighbours])


def form_with(house, form, neighbours, word):
    """The form with a further room and its word, or None. Raises BadHouse if there are 12 rooms already."""
    call = [] if word is None else [(house.rooms, word)]
    return form_of(house_with(house, neighbours), plain_log(form) + call)
