"""Looks at a corridor that may leave rooms out.

A stretch (i, j) is the set of the rooms from i to j - 1. Openings that fit cut the corridor into sound stretches.
"""

from callsheard.errors import Impossible
from callsheard.logs import listed_words, word_of

UNSEEN = "?"


def sound_stretches(rooms, log, looks):
    """The ascending list of the sound stretches."""
    stretches = [(i, j) for i in range(rooms) for j in range(i + 1, rooms + 1)]
    return [stretch for stretch in stretches if is_sound(log, looks, stretch)]


def is_sound(log, looks, stretch):
    """True if each look saw the word of the stretch in each of its rooms that it did not leave out."""
    members = list(range(stretch[0], stretch[1]))
    for count, seen in looks:
        word = word_of(log[:count], members)
        if any([seen[room] not in (UNSEEN, word) for room in members]):
            return False
    return True


def cuts_answer(rooms, log, looks):
    """The answer about the looks: the fewest cuts that fit, or the reachable places; a tuple."""
    # The best places up to each reachable place, this one included. Stretches ascend,
    # so the best places up to i are known when stretches that begin at i have their turn.
    best = {0: ()}
    for i, j in sound_stretches(rooms, log, looks):
        if i in best:
            places = best[i] + (j,)
            if j not in best or (len(places), places) < (len(best[j]), best[j]):
                best[j] = places
    if rooms in best:
        return ("cuts", best[rooms][:-1])
    return ("wall", tuple(sorted(best)))


def ways_before(rooms, stretches):
    """For each place, in how many ways sound stretches fill the corridor from 0 to the place."""
    ways = [1] + [0] * rooms
    for i, j in stretches:
        ways[j] = ways[j] + ways[i]
    return ways


def ways_behind(rooms, stretches):
    """For each place, in how many ways sound stretches fill the corridor from the place to its end."""
    ways = [0] * rooms + [1]
    for i, j in reversed(stretches):
        ways[i] = ways[i] + ways[j]
    return ways


def count_cuts(rooms, log, looks):
    """The number of the openings that fit."""
    return ways_before(rooms, sound_stretches(rooms, log, looks))[rooms]


def need_some(count):
    """Raise Impossible if the number of the openings that fit is 0."""
    if count == 0:
        raise Impossible()


def corridor_states(rooms, log, looks):
    """The list of the states of the doors. Raises Impossible."""
    stretches = sound_stretches(rooms, log, looks)
    before = ways_before(rooms, stretches)
    behind = ways_behind(rooms, stretches)
    need_some(before[rooms])
    return [door_state(before[place] * behind[place], before[rooms]) for place in range(1, rooms)]


def door_state(cutting, count):
    """The state of a door that is shut in so many of the openings that fit."""
    if cutting == 0:
        return "open"
    return "shut" if cutting == count else "free"


def corridor_words(rooms, log, looks, room):
    """The list of the words, or None, that the room may keep after the log. Raises Impossible."""
    stretches = sound_stretches(rooms, log, looks)
    before = ways_before(rooms, stretches)
    behind = ways_behind(rooms, stretches)
    need_some(before[rooms])
    around = [(i, j) for i, j in stretches if i <= room < j and before[i] > 0 and behind[j] > 0]
    return listed_words([word_of(log, list(range(i, j))) for i, j in around])
