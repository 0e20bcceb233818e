"""Houses of which some doors are known to be open or shut."""

from callsheard.alike import parting_path
from callsheard.forms import form_of, plain_log
from callsheard.hearing import areas
from callsheard.house import House
from callsheard.paths import path_doors


def settle(house, *, opened=(), shut=()):
    """The pair of the settled house and the list of the new rooms of all old rooms."""
    places = new_rooms(house, opened)
    return (House(max(places) + 1, list(old_doors(house, places, shut))), places)


def new_rooms(house, opened):
    """The list of the new rooms of all old rooms."""
    places = [0] * house.rooms
    for place, area in enumerate(areas(house, opened)):
        for room in area:
            places[room] = place
    return places


def old_doors(house, places, shut):
    """For each door of the settled house, one door of the old house that it comes from."""
    doors = {}
    for a, b in house.doors():
        if places[a] != places[b] and (a, b) not in shut:
            doors[(min(places[a], places[b]), max(places[a], places[b]))] = (a, b)
    return doors


def settle_log(log, places):
    """The settled log, a list."""
    return [(places[room], word) for room, word in log]


def settle_form(house, form, *, opened=(), shut=()):
    """The settled form of a form."""
    settled, places = settle(house, opened=opened, shut=shut)
    return form_of(settled, settle_log(plain_log(form), places))


def known_answer(house, first, second, *, opened=(), shut=()):
    """None if the logs are alike with the known doors, otherwise an opening that tells them apart."""
    settled, places = settle(house, opened=opened, shut=shut)
    path = parting_path(settled, settle_log(first, places), settle_log(second, places))
    if path is None:
        return None
    doors = old_doors(house, places, shut)
    return sorted(list(opened) + [doors[door] for door in path_doors(path)])
