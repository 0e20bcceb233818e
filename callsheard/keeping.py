"""Which calls a room may keep, if the order of the calls is known in part and no door is known."""

from callsheard.arranging import linked_rooms
from callsheard.facts import Facts, fitting_order
from callsheard.paths import first_path, reached


def plain_order(facts):
    """The order that fits the words and pairs, with nothing heard. Raises Impossible if none does."""
    return fitting_order(without_heard(facts, []))


def without_heard(facts, more_pairs):
    """The words and pairs of facts with more pairs at the end, and nothing heard."""
    return Facts(facts.words(), facts.pairs() + more_pairs, [])


def not_later(house, facts, caller):
    """The list of the rooms that are not surely later than a called room."""
    later = linked_rooms(facts.pairs(), caller)
    return [room for room in range(house.rooms) if room not in later]


def may_keep(house, facts, room):
    """The ascending list of the rooms whose call the room may keep. Raises Impossible."""
    plain_order(facts)
    return [caller for caller in facts.called() if caller in reached(house, room, not_later(house, facts, caller))]


def keep_certificate(house, facts, room, caller):
    """The certificate that the room may keep, or may not keep, the call in a room; a tuple. Raises Impossible."""
    plain_order(facts)
    inside = not_later(house, facts, caller)
    path = first_path(house, room, caller, inside)
    if path is None:
        return ("wall", reached(house, room, inside))
    called = facts.called()
    more_pairs = [(other, caller) for other in path if other in called and other != caller]
    return ("path", path, fitting_order(without_heard(facts, more_pairs)))


def room_answer(house, facts, room):
    """The answer about the word that a room keeps, a tuple. Raises Impossible."""
    first = ((room,), plain_order(facts))
    words = facts.words()
    for caller in may_keep(house, facts, room):
        if words[caller] != words[room]:
            _, path, order = keep_certificate(house, facts, room, caller)
            return ("open", first, (path, order))
    return ("sure", words[room])
