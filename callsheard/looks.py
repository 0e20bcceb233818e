"""Looks at the rooms: what they tell of the doors."""

from callsheard.errors import Impossible
from callsheard.hearing import areas
from callsheard.house import House
from callsheard.logs import top_room, word_of
from callsheard.paths import lies_in, reached


def joint_pieces(house, looks, *, opened=(), shut=()):
    """The list of the joint pieces. They are the same whatever doors are opened."""
    return areas(house, inner_doors(house, looks, shut))


def inner_doors(house, looks, shut):
    """The ascending list of the doors that are not shut and of which the rooms look alike."""
    return [door for door in house.doors() if door not in shut and unlike_look(looks, door) is None]


def unlike_look(looks, door):
    """The least index of a look with unlike words for the rooms of a door, or None."""
    a, b = door
    for index, (_, seen) in enumerate(looks):
        if seen[a] != seen[b]:
            return index
    return None


def unsound_look(log, looks, rooms):
    """The least index of a look that makes rooms that look alike not sound, or None if they are sound."""
    for index, (count, seen) in enumerate(looks):
        if word_of(log[:count], rooms) != seen[rooms[0]]:
            return index
    return None


def looks_answer(house, log, looks, *, opened=(), shut=()):
    """The answer about the looks: an opening that fits, or why there is none; a tuple."""
    for door in opened:
        look = unlike_look(looks, door)
        if look is not None:
            return ("apart", door, look)
    inner = inner_doors(house, looks, shut)
    for piece in areas(house, inner):
        look = unsound_look(log, looks, piece)
        if look is not None:
            return ("clash", piece, look, top_room(log[:looks[look][0]], piece))
    return ("opening", inner)


def opening_fits(house, log, looks, opening, *, opened=(), shut=()):
    """True if the opening fits the known doors and the looks."""
    if not lies_in(opened, opening) or any([door in shut for door in opening]):
        return False
    # The areas are the same for all looks, so they are looked for only once.
    return all(keeps_seen(log, looks, area) for area in areas(house, opening))


def keeps_seen(log, looks, area):
    """True if each look saw the word of an area in each of its rooms."""
    for count, seen in looks:
        word = word_of(log[:count], area)
        if any([seen[room] != word for room in area]):
            return False
    return True


def greatest_opening(house, log, looks, opened, shut):
    """The opening that fits and holds all others that fit: all inner doors. Raises Impossible."""
    answer = looks_answer(house, log, looks, opened=opened, shut=shut)
    if answer[0] != "opening":
        raise Impossible()
    return answer[1]


def door_states(house, log, looks, *, opened=(), shut=()):
    """The list of the states of all doors. Raises Impossible."""
    inner = greatest_opening(house, log, looks, opened, shut)

    def state(door):
        if door in opened:
            return "open"
        if door not in inner:
            return "shut"
        return "free" if lost_half(house, log, looks, inner, door) is None else "open"

    return [state(door) for door in house.doors()]


def lost_half(house, log, looks, inner, door):
    """The half that is not sound without an inner door, and its look; None if all stays sound without the door."""
    left = House(house.rooms, without_door(inner, door))
    for room in door:
        half = reached(left, room, list(range(house.rooms)))
        look = unsound_look(log, looks, half)
        if look is not None:
            return (half, look)
    return None


def without_door(doors, door):
    """The list of the doors but one."""
    return [other for other in doors if other != door]


def door_certificate(house, log, looks, door, *, opened=(), shut=()):
    """The certificate of the state of a door, a tuple. Raises Impossible."""
    inner = greatest_opening(house, log, looks, opened, shut)
    if door in opened or door in shut:
        return ("known",)
    look = unlike_look(looks, door)
    if look is not None:
        return ("unlike", look)
    lost = lost_half(house, log, looks, inner, door)
    if lost is not None:
        return ("needed", lost[0], lost[1])
    return ("free", without_door(inner, door), inner)
