"""callsheard/paths.py: [5] to [7] and the interface."""

import itertools
import random
import unittest

from callsheard.errors import TooLarge
from callsheard.house import House
from callsheard.paths import all_parts, first_path, is_part, path_doors, pieces, reached
from tests.support import check_clean, every_house, parts_of, paths_of, pieces_of, some_houses, subsets


class PiecesTest(unittest.TestCase):
    def test_examples(self):
        house = House.corridor(6)
        self.assertEqual(pieces(house, [0, 1, 3, 5, 4]), [(0, 1), (3, 4, 5)])
        self.assertEqual(pieces(house, (5, 3, 1)), [(1,), (3,), (5,)])
        self.assertEqual(pieces(house, []), [])
        self.assertEqual(pieces(house, ()), [])
        self.assertEqual(pieces(House(1, []), [0]), [(0,)])

    def test_against_the_definition(self):
        dice = random.Random(1)
        for house in itertools.chain(every_house(4), some_houses(2, 6, 20)):
            for rooms in subsets(range(house.rooms)):
                wanted = pieces_of(house, rooms)
                self.assertEqual(pieces(house, rooms), wanted)
                mixed = list(rooms)
                dice.shuffle(mixed)
                self.assertEqual(pieces(house, mixed), wanted)
                self.assertIs(is_part(house, mixed), len(wanted) == 1)
                self.assertIs(is_part(house, tuple(mixed)), len(wanted) == 1)

    def test_is_part_of_no_rooms(self):
        self.assertIs(is_part(House.full(3), []), False)
        self.assertIs(is_part(House.full(3), ()), False)

    def test_large_houses(self):
        house = House(12, [(k, k + 2) for k in range(10)])
        self.assertEqual(pieces(house, list(range(11, -1, -1))), [(0, 2, 4, 6, 8, 10), (1, 3, 5, 7, 9, 11)])
        self.assertEqual(pieces(House(12, []), list(range(12))), [(room,) for room in range(12)])
        self.assertIs(is_part(House.full(12), list(range(12))), True)
        self.assertIs(is_part(House.corridor(12), [0, 11]), False)


class AllPartsTest(unittest.TestCase):
    def test_examples(self):
        self.assertEqual(all_parts(House(1, [])), [(0,)])
        self.assertEqual(all_parts(House.corridor(3)), [(0,), (1,), (2,), (0, 1), (1, 2), (0, 1, 2)])
        self.assertEqual(all_parts(House(2, [])), [(0,), (1,)])

    def test_against_the_definition(self):
        for house in itertools.chain(every_house(3), every_house(4), some_houses(3, 6, 10)):
            self.assertEqual(all_parts(house), parts_of(house))

    def test_six_rooms(self):
        self.assertEqual(len(all_parts(House.full(6))), 63)
        self.assertEqual(len(all_parts(House.corridor(6))), 21)

    def test_large_houses(self):
        for rooms in (7, 8, 12):
            for house in (House(rooms, []), House.full(rooms)):
                with self.assertRaises(TooLarge) as caught:
                    all_parts(house)
                self.assertEqual(caught.exception.size, rooms)


class PathsTest(unittest.TestCase):
    def test_first_path_examples(self):
        house = House.ring(6)
        rooms = [3, 1, 5, 0, 2, 4]
        self.assertEqual(first_path(house, 0, 3, rooms), (0, 1, 2, 3))
        self.assertEqual(first_path(house, 3, 0, rooms), (3, 2, 1, 0))
        self.assertEqual(first_path(house, 0, 3, (0, 3, 4, 5)), (0, 5, 4, 3))
        self.assertIsNone(first_path(house, 0, 3, (0, 1, 3, 4)))
        self.assertEqual(first_path(house, 2, 2, rooms), (2,))
        self.assertEqual(first_path(house, 2, 2, [2]), (2,))

    def test_start_or_goal_outside_the_set(self):
        house = House.full(4)
        self.assertIsNone(first_path(house, 0, 1, [1, 2]))
        self.assertIsNone(first_path(house, 0, 1, [0, 2]))
        self.assertIsNone(first_path(house, 2, 2, [0, 1]))
        self.assertIsNone(first_path(house, 0, 1, []))
        self.assertEqual(reached(house, 0, [1, 2]), ())
        self.assertEqual(reached(house, 0, ()), ())

    def test_against_all_paths(self):
        for house in itertools.chain(every_house(4), some_houses(4, 5, 12), some_houses(5, 6, 4)):
            for rooms in subsets(range(house.rooms)):
                firsts = {}
                for path in paths_of(house, rooms):
                    firsts.setdefault((path[0], path[-1]), path)
                for start in range(house.rooms):
                    goals = tuple(goal for goal in range(house.rooms) if (start, goal) in firsts)
                    self.assertEqual(reached(house, start, rooms[::-1]), goals)
                    self.assertEqual(reached(house, start, list(rooms)), goals)
                    for goal in range(house.rooms):
                        self.assertEqual(first_path(house, start, goal, rooms[::-1]), firsts.get((start, goal)))

    def test_large_houses(self):
        rooms = list(range(12))
        self.assertEqual(first_path(House.full(12), 11, 3, rooms), (11, 3))
        self.assertEqual(first_path(House.corridor(12), 11, 0, rooms), tuple(range(11, -1, -1)))
        doors = [door for door in House.full(12).doors() if door not in ((0, 11), (1, 11), (0, 1), (0, 2))]
        self.assertEqual(first_path(House(12, doors), 0, 11, rooms), (0, 3, 11))
        self.assertEqual(reached(House.full(12), 5, rooms), tuple(rooms))
        self.assertEqual(reached(House.corridor(12), 5, [5, 4, 6, 8, 2]), (4, 5, 6))

    def test_path_doors(self):
        self.assertEqual(path_doors((3,)), [])
        self.assertEqual(path_doors((3, 0)), [(0, 3)])
        self.assertEqual(path_doors((5, 2, 9, 0, 11)), [(0, 9), (0, 11), (2, 5), (2, 9)])
        self.assertEqual(path_doors((0, 1, 2)), [(0, 1), (1, 2)])


class CleanTest(unittest.TestCase):
    def test_lists(self):
        house = House.ring(5)
        check_clean(self, pieces, house, [4, 0, 2])
        check_clean(self, is_part, house, [4, 0, 3])
        check_clean(self, all_parts, house)
        check_clean(self, reached, house, 4, [4, 0, 2])
        check_clean(self, first_path, house, 4, 1, [4, 1, 0, 2])
        check_clean(self, path_doors, (4, 0, 1))
