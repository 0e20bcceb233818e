"""callsheard/hearing.py: [1], [8], [10], [11] and the interface."""

import itertools
import random
import unittest

from callsheard.errors import TooLarge
from callsheard.hearing import LiveHouse, all_openings, areas, hear
from callsheard.house import House
from callsheard.logs import word_of
from tests.support import a_log, check_clean, every_house, heard, parts_of, pieces_of, some_houses, spoil

LOG = [(0, "bell"), (2, "horn"), (1, "drum")]


class AreasTest(unittest.TestCase):
    def test_example_of_the_document(self):
        house = House.corridor(3)
        self.assertEqual(areas(house, [(0, 1)]), [(0, 1), (2,)])
        self.assertEqual(hear(house, LOG, [(0, 1)]), ["drum", "drum", "horn"])

    def test_no_door_and_all_doors(self):
        house = House.ring(12)
        self.assertEqual(areas(house, []), [(room,) for room in range(12)])
        self.assertEqual(areas(house, house.doors()), [tuple(range(12))])
        self.assertEqual(areas(House(1, []), []), [(0,)])

    def test_areas_are_the_pieces_of_the_house_with_the_open_doors(self):
        house = House.full(4)
        for opening in all_openings(house):
            self.assertEqual(areas(house, opening), pieces_of(House(4, opening), range(4)))

    def test_each_part_is_an_area(self):
        for house in itertools.chain(every_house(3), some_houses(7, 4, 10)):
            found = {area for opening in all_openings(house) for area in areas(house, opening)}
            self.assertEqual(found, set(parts_of(house)))


class HearTest(unittest.TestCase):
    def test_against_call_by_call(self):
        dice = random.Random(8)
        for house in itertools.chain(every_house(3), some_houses(9, 5, 15)):
            openings = [sorted(dice.sample(house.doors(), dice.randrange(house.door_count + 1))) for _ in range(6)]
            for opening in openings:
                log = a_log(dice, house.rooms, dice.randrange(9))
                wanted = heard(house, log, opening)
                self.assertEqual(hear(house, log, opening), wanted)
                for area in areas(house, opening):
                    self.assertEqual([wanted[room] for room in area], [word_of(log, area)] * len(area))

    def test_empty_log(self):
        self.assertEqual(hear(House.full(4), [], [(0, 1)]), [None] * 4)

    def test_rooms_that_are_not_called_hear(self):
        self.assertEqual(hear(House.corridor(4), [(1, "bell")], [(0, 1), (1, 2)]), ["bell", "bell", "bell", None])

    def test_sixty_calls_in_twelve_rooms(self):
        dice = random.Random(10)
        house = House.full(12)
        for _ in range(10):
            log = a_log(dice, 12, 60)
            opening = sorted(dice.sample(house.doors(), 8))
            self.assertEqual(hear(house, log, opening), heard(house, log, opening))


class AllOpeningsTest(unittest.TestCase):
    def test_order(self):
        self.assertEqual(all_openings(House(3, [])), [[]])
        self.assertEqual(all_openings(House.corridor(2)), [[], [(0, 1)]])
        self.assertEqual(
            all_openings(House.ring(3)),
            [
                [], [(1, 2)], [(0, 2)], [(0, 2), (1, 2)],
                [(0, 1)], [(0, 1), (1, 2)], [(0, 1), (0, 2)], [(0, 1), (0, 2), (1, 2)],
            ],
        )

    def test_ten_doors(self):
        for house in (House.full(5), House.corridor(11), House(12, House.corridor(11).doors())):
            openings = all_openings(house)
            doors = house.doors()
            self.assertEqual(len(openings), 1024)
            self.assertEqual((openings[0], openings[-1]), ([], doors))
            marks = [[door in opening for door in doors] for opening in openings]
            self.assertEqual(marks, sorted(marks))
            for opening in openings:
                self.assertEqual(opening, sorted(set(opening)))

    def test_eleven_doors(self):
        for house, doors in ((House.corridor(12), 11), (House.full(12), 66), (House.full(6), 15)):
            with self.assertRaises(TooLarge) as caught:
                all_openings(house)
            self.assertEqual(caught.exception.size, doors)
        house = House(6, House.full(6).doors()[:11])
        with self.assertRaises(TooLarge) as caught:
            all_openings(house)
        self.assertEqual(caught.exception.size, 11)


class LiveHouseTest(unittest.TestCase):
    def test_calls(self):
        live = LiveHouse(House.corridor(4), [(0, 1), (2, 3)])
        self.assertEqual((live.calls, live.words()), (0, [None] * 4))
        self.assertEqual(live.call(1, "bell"), [0, 1])
        self.assertEqual((live.calls, live.words()), (1, ["bell", "bell", None, None]))
        self.assertEqual(live.call(2, "horn"), [2, 3])
        self.assertEqual(live.call(0, "drum"), [0, 1])
        self.assertEqual((live.calls, live.words()), (3, ["drum", "drum", "horn", "horn"]))

    def test_agrees_with_hear(self):
        dice = random.Random(11)
        for house in some_houses(12, 6, 15):
            opening = sorted(dice.sample(house.doors(), dice.randrange(house.door_count + 1)))
            live = LiveHouse(house, opening)
            log = a_log(dice, 6, 20)
            for count, (room, word) in enumerate(log, start=1):
                area = [rooms for rooms in areas(house, opening) if room in rooms][0]
                self.assertEqual(live.call(room, word), list(area))
                self.assertEqual(live.calls, count)
                self.assertEqual(live.words(), hear(house, log[:count], opening))

    def test_any_number_of_words(self):
        live = LiveHouse(House(1, []), [])
        for count in range(200):
            self.assertEqual(live.call(0, "bell"), [0])
        self.assertEqual((live.calls, live.words()), (200, ["bell"]))

    def test_lists_do_not_matter_later(self):
        opening = [(0, 1)]
        live = LiveHouse(House.corridor(3), opening)
        opening.append((1, 2))
        spoil(live.call(0, "bell"))
        spoil(live.words())
        self.assertEqual(live.words(), ["bell", "bell", None])
        self.assertEqual(live.call(1, "horn"), [0, 1])
        opening.clear()
        self.assertEqual(live.call(0, "drum"), [0, 1])
        self.assertEqual((live.calls, live.words()), (3, ["drum", "drum", None]))

    def test_two_live_houses_do_not_hear_each_other(self):
        house = House.corridor(2)
        first, second = LiveHouse(house, [(0, 1)]), LiveHouse(house, [])
        first.call(0, "bell")
        self.assertEqual((second.calls, second.words()), (0, [None, None]))
        self.assertEqual(second.call(1, "horn"), [1])
        self.assertEqual(first.words(), ["bell", "bell"])


class CleanTest(unittest.TestCase):
    def test_lists(self):
        house = House.corridor(3)
        check_clean(self, areas, house, [(0, 1)])
        check_clean(self, hear, house, list(LOG), [(0, 1)])
        check_clean(self, all_openings, house)

    def test_openings_are_lists_of_their_own(self):
        openings = all_openings(House.corridor(3))
        for opening in openings:
            opening.append("mark")
        self.assertTrue(all(opening.count("mark") == 1 for opening in openings))
