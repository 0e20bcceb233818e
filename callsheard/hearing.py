"""What rooms hear if it is known which doors are open."""

from callsheard.errors import TooLarge
from callsheard.house import House
from callsheard.logs import word_of
from callsheard.paths import pieces

MOST_DOORS = 10


def areas(house, opening):
    """The list of the pieces of the house in which only the open doors are left."""
    return pieces(House(house.rooms, opening), list(range(house.rooms)))


def hear(house, log, opening):
    """A list with the word that each room keeps after the log, or None."""
    words = [None] * house.rooms
    for area in areas(house, opening):
        word = word_of(log, area)
        for room in area:
            words[room] = word
    return words


def all_openings(house):
    """The list of all openings, in their order."""
    if house.door_count > MOST_DOORS:
        raise TooLarge(house.door_count)
    openings = [[]]
    for door in house.doors():
        # A lesser door decides first, and shut comes before open.
        openings = [longer for opening in openings for longer in (opening, opening + [door])]
    return openings


class LiveHouse:
    """A house whose open doors are known, and in which words are called one after another."""

    def __init__(self, house, opening):
        self._areas = areas(house, opening)
        self._words = [None] * house.rooms
        self._calls = 0

    @property
    def calls(self):
        """The number of calls so far."""
        return self._calls

    def call(self, room, word):
        """Call a word in a room; the ascending list of the rooms that hear it."""
        self._calls += 1
        hearers = [other for area in self._areas if room in area for other in area]
        for hearer in hearers:
            self._words[hearer] = word
        return hearers

    def words(self):
        """The list of the words that the rooms keep now, or None."""
        return list(self._words)
