"""Forced pairs: which calls must come before which other ones, so that a form is kept."""

from callsheard.arranging import linked_rooms, obeys_pairs
from callsheard.errors import NotForced
from callsheard.forms import block_rooms, blocks, called_by_form, smallest_block
from callsheard.paths import first_path


def forced_pairs(house, form):
    """The ascending list of the forced pairs of a form."""
    pairs = []
    for outer in blocks(form):
        for inside in blocks(outer[2]):
            pairs.extend(pairs_between(house, inside, outer))
    return sorted(pairs)


def pairs_between(house, inside, outer):
    """The forced pairs of tops of two blocks, of which the first one lies strictly inside the other one."""
    word, tops, _ = inside
    if word is None or word == outer[0]:
        return []
    rooms = block_rooms(inside)
    return [(z, x) for x in outer[1] if is_beside(house, x, rooms) for z in tops]


def is_beside(house, room, rooms):
    """True if a door joins the room to one of the rooms."""
    return any([other in rooms for other in house.neighbours(room)])


def forcing_path(house, form, before, after):
    """The forcing path of a forced pair, a tuple. Raises NotForced."""
    if (before, after) not in forced_pairs(house, form):
        raise NotForced()
    # The smallest block that holds a room is the one of which the room is a top.
    inside = block_rooms(smallest_block(form, (before,)))
    return first_path(house, before, after, inside + (after,))


def sure_pairs(house, form):
    """The ascending list of the pairs that chains of forced pairs link."""
    pairs = forced_pairs(house, form)
    return [(a, b) for a in sorted({before for before, _ in pairs}) for b in linked_rooms(pairs, a)]


def keeps_form(house, form, order):
    """True if the tuple of integers is an order of the form and keeps it."""
    return sorted(order) == called_by_form(form) and obeys_pairs(order, forced_pairs(house, form))
