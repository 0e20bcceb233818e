"""Further calls at the end of a log, after which the whole has a wished form."""

from callsheard.arranging import linked_rooms
from callsheard.certificates import last_places
from callsheard.forced import forced_pairs
from callsheard.forms import called_by_form, plain_log, words_by_form
from callsheard.logs import last_calls, order_of
from callsheard.paths import lies_in


def rooms_again(house, log, form):
    """The rooms to call again, an ascending tuple, or None if no further calls lead to the form."""
    if not lies_in(order_of(log), called_by_form(form)):
        return None
    pairs = forced_pairs(house, form)
    first = [room for room in called_by_form(form) if has_other_word(log, form, room)]
    first.extend([after for before, after in late_pairs(log, pairs)])
    return tuple(sorted({room for start in first for room in [start] + linked_rooms(pairs, start)}))


def has_other_word(log, form, room):
    """True if the last call in a room that is called by the form has another word, or there is none."""
    return dict(last_calls(log)).get(room) != words_by_form(form)[room]


def late_pairs(log, pairs):
    """The list of the forced pairs of which the log calls the first room later than the second one."""
    places = last_places(log)
    return [(z, x) for z, x in pairs if z in places and x in places and places[z] > places[x]]


def further_calls(house, log, form):
    """The fewest further calls, a list, or None if no further calls lead to the form."""
    again = rooms_again(house, log, form)
    if again is None:
        return None
    return [(room, word) for room, word in plain_log(form) if room in again]


def again_reasons(house, log, form):
    """The list of pairs of a room to call again and its reason, or None if no further calls lead to the form."""
    again = rooms_again(house, log, form)
    if again is None:
        return None
    return [(room, again_reason(house, log, form, again, room)) for room in again]


def again_reason(house, log, form, again, room):
    """The reason why a room is to be called again, a tuple."""
    if has_other_word(log, form, room):
        return ("word",)
    pairs = forced_pairs(house, form)
    late = [before for before, after in late_pairs(log, pairs) if after == room]
    if late:
        return ("late", min(late))
    return ("after", min([before for before, after in pairs if after == room and before in again]))
