"""callsheard/joining.py: [70] and [71] and the interface."""

import itertools
import random
import unittest

from callsheard.errors import BadHouse
from callsheard.hearing import all_openings, areas
from callsheard.house import House
from callsheard.joining import join_houses, ladder
from tests.support import a_log, by_definition_last_calls, check_clean, form_trials, heard, paths_of, some_houses, top_of

HOUSE = House.corridor(3)
LOG = [(0, "bell"), (2, "horn"), (0, "drum"), (1, "drum")]


def ladder_by_definition(house, log, room):
    """Last calls to whose rooms a path leads without a room called later."""
    places = {caller: place for place, (caller, _) in enumerate(log)}
    rungs = {
        path[-1] for path in paths_of(house)
        if path[0] == room and path[-1] in places
        and all(places.get(other, -1) <= places[path[-1]] for other in path)
    }
    return [call for call in by_definition_last_calls(log) if call[0] in rungs]


class JoinedHouseTest(unittest.TestCase):
    def test_against_the_definition(self):
        dice = random.Random(1221)
        for first in itertools.chain(some_houses(1222, 1, 1), some_houses(1223, 3, 8), some_houses(1224, 6, 4)):
            for second in itertools.chain(some_houses(1225, 1, 1), some_houses(1226, 2, 4), some_houses(1227, 5, 6)):
                n = first.rooms
                u, v = dice.randrange(n), dice.randrange(second.rooms)
                joined = join_houses(first, second, (u, v))
                self.assertIs(type(joined), House)
                self.assertEqual(joined.rooms, n + second.rooms)
                moved = [(a + n, b + n) for a, b in second.doors()]
                self.assertEqual(joined.doors(), sorted(first.doors() + moved + [(u, n + v)]))

    def test_some_houses(self):
        joined = join_houses(House.corridor(2), House.ring(3), (0, 2))
        self.assertEqual((joined.rooms, joined.doors()), (5, [(0, 1), (0, 4), (2, 3), (2, 4), (3, 4)]))
        joined = join_houses(House(1, []), House(1, []), (0, 0))
        self.assertEqual((joined.rooms, joined.doors()), (2, [(0, 1)]))

    def test_twelve_and_thirteen_rooms(self):
        for rooms in (1, 2, 6, 10, 11):
            joined = join_houses(House.corridor(rooms), House.corridor(12 - rooms), (rooms - 1, 0))
            self.assertEqual((joined.rooms, joined.doors()), (12, House.corridor(12).doors()))
            with self.assertRaises(BadHouse) as caught:
                join_houses(House.corridor(rooms), House.corridor(13 - rooms), (rooms - 1, 0))
            self.assertEqual(caught.exception.place, -1)
        one, twelve = House(1, []), House(12, [])
        for first, second in ((House.full(12), House.full(12)), (twelve, one), (one, twelve)):
            with self.assertRaises(BadHouse) as caught:
                join_houses(first, second, (0, 0))
            self.assertEqual(caught.exception.place, -1)

    def test_clean(self):
        first, second = House.corridor(2), House.ring(3)
        join_houses(first, second, (0, 2)).doors().append((9, 9))
        self.assertEqual((first.doors(), second.doors()), ([(0, 1)], [(0, 1), (0, 2), (1, 2)]))


class LadderTest(unittest.TestCase):
    def test_against_paths(self):
        sizes = set()
        for house, log in form_trials(1228):
            for room in range(house.rooms):
                found = ladder(house, log, room)
                self.assertEqual(found, ladder_by_definition(house, log, room))
                sizes.add(len(found))
        self.assertLessEqual({0, 1, 2, 3, 4}, sizes)

    def test_against_hearing_over_all_openings(self):
        for house, log in list(form_trials(1229, 4))[::3]:
            openings = all_openings(house)
            for room in range(house.rooms):
                rungs = ladder(house, log, room)
                called = any(caller == room for caller, _ in log)
                tops = {top_of(log, area) for opening in openings for area in areas(house, opening) if room in area}
                self.assertEqual(tops - {None}, {caller for caller, _ in rungs})
                kept = {heard(house, log, opening)[room] for opening in openings}
                self.assertEqual(kept, {word for _, word in rungs} | ({None} if not called else set()))

    def test_some_ladders(self):
        self.assertEqual(ladder(HOUSE, LOG, 0), [(0, "drum"), (1, "drum")])
        self.assertEqual(ladder(HOUSE, LOG, 1), [(1, "drum")])
        self.assertEqual(ladder(HOUSE, LOG, 2), [(2, "horn"), (1, "drum")])
        self.assertEqual(ladder(HOUSE, [(2, "horn"), (0, "bell")], 1), [(2, "horn"), (0, "bell")])
        self.assertEqual(ladder(HOUSE, [(2, "horn"), (0, "bell")], 0), [(0, "bell")])
        self.assertEqual(ladder(HOUSE, [(0, "bell"), (2, "horn")], 0), [(0, "bell"), (2, "horn")])

    def test_no_calls_and_one_room(self):
        for house in (House(1, []), House.full(6), House.ring(12)):
            self.assertEqual(ladder(house, [], 0), [])
        self.assertEqual(ladder(House(1, []), [(0, "a"), (0, "b")], 0), [(0, "b")])
        self.assertEqual(ladder(House(2, []), [(1, "a")], 0), [])

    def test_twelve_rooms(self):
        log = [(room, "a") for room in range(12)]
        self.assertEqual(ladder(House.corridor(12), log, 0), log)
        self.assertEqual(ladder(House.corridor(12), log[::-1], 0), log[:1])
        self.assertEqual(ladder(House.full(12), log, 4), log[4:])
        self.assertEqual(ladder(House(12, []), log, 4), [(4, "a")])
        dice = random.Random(1230)
        log = a_log(dice, 12, 60)
        calls = by_definition_last_calls(log)
        at = [caller for caller, _ in calls].index(5)
        self.assertEqual(ladder(House.full(12), log, 5), calls[at:])

    def test_clean(self):
        check_clean(self, ladder, HOUSE, list(LOG), 0)


