"""What it takes to fix a form: the least pairs of calls, and the parts whose words pin it."""

from callsheard.errors import NotForced
from callsheard.forced import forced_pairs, sure_pairs
from callsheard.forms import block_rooms, called_by_form, smallest_block
from callsheard.paths import reached


def least_pairs(house, form):
    """The ascending list of the sure pairs that do not follow from other sure pairs."""
    pairs = sure_pairs(house, form)
    return [(a, b) for a, b in pairs if not has_between(pairs, a, b)]


def has_between(pairs, a, b):
    """True if both (a, c) and (c, b) are among the pairs, for some c."""
    return any([(c, b) in pairs for before, c in pairs if before == a])


def pinned_rooms(house, form):
    """The ascending list of the rooms that are the second room of a forced pair."""
    return sorted({after for _, after in forced_pairs(house, form)})


def pins(house, form):
    """The list of the pins, pairs (room, part)."""
    return [(room, pinning_part(house, form, room)) for room in pinned_rooms(house, form)]


def pinning_part(house, form, room):
    """The piece that holds a room among this room and the rooms of its block that are not tops."""
    # The smallest block that holds a room is the one of which the room is a top.
    block = smallest_block(form, (room,))
    inside = [other for other in block_rooms(block) if other == room or other not in block[1]]
    return reached(house, room, inside)


def belongs(form, part):
    """The room to which a part belongs, or None."""
    block = smallest_block(form, part)
    # A part without any top would lie in an inner block, so there is at least one top in it.
    tops = [room for room in block[1] if room in part]
    return tops[0] if len(tops) == 1 else None


def near_miss(house, form, room):
    """The near miss of a pinned room, a tuple. Raises NotForced if the room is not pinned."""
    if room not in pinned_rooms(house, form):
        raise NotForced()
    pairs = sure_pairs(house, form)
    missed = min([before for before, after in least_pairs(house, form) if after == room])
    first = [before for before, after in pairs if after == room and before != missed]
    last = [other for other in called_by_form(form) if other not in first + [room, missed]]
    return least_order(pairs, first) + (room, missed) + least_order(pairs, last)


def least_order(pairs, rooms):
    """The least tuple of the rooms that has a before b for each pair (a, b) of these rooms."""
    left = sorted(rooms)
    order = ()
    while left:
        waiting = [after for before, after in pairs if before in left]
        room = min([other for other in left if other not in waiting])
        order = order + (room,)
        left.remove(room)
    return order
