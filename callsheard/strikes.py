"""Calls that are struck out of a log, so that the rest has a wished form."""

from callsheard.forced import forced_pairs
from callsheard.forms import called_by_form, words_by_form


def strikes(house, log, form):
    """The ascending list of the indexes to strike, or None if no set of indexes works."""
    kept = kept_places(house, log, form)
    if kept is None:
        return None
    return [index for index, (room, _) in enumerate(log) if index > kept.get(room, -1)]


def strike_reasons(house, log, form):
    """The list of pairs of an index to strike and its reason, or None if no set of indexes works."""
    kept = kept_places(house, log, form)
    if kept is None:
        return None
    return [(index, strike_reason(house, log, form, kept, index)) for index in strikes(house, log, form)]


def strike_reason(house, log, form, kept, index):
    """The reason why the call at an index is struck, a tuple."""
    room, word = log[index]
    if words_by_form(form)[room] != word:
        return ("word",)
    return ("late", min([x for z, x in forced_pairs(house, form) if z == room and kept[x] < index]))


def kept_places(house, log, form):
    """The index of the last call that is kept in each room called by the form, by the room; None if nothing works.

    Each place is as late as in any set that works, so no other calls are struck than those that have to be.
    """
    words = words_by_form(form)
    limits = {room: len(log) for room in called_by_form(form)}
    kept = {}
    while limits:
        for room, limit in limits.items():
            kept[room] = last_place(log[:limit], (room, words[room]))
        if None in list(kept.values()):
            return None
        limits = new_limits(forced_pairs(house, form), kept)
    return kept


def last_place(log, call):
    """The index of the last one of the calls that are equal to the call, or None."""
    places = [index for index, other in enumerate(log) if other == call]
    return places[-1] if places else None


def new_limits(pairs, kept):
    """For the rooms whose kept place is too late for some forced pairs, the least place that it must come before."""
    limits = {}
    for z, x in pairs:
        if kept[z] > kept[x]:
            limits[z] = min(kept[x], limits.get(z, kept[x]))
    return limits
