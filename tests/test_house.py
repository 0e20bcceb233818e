"""callsheard/house.py: [4] and the interface."""

import itertools
import unittest

from callsheard.errors import BadHouse
from callsheard.house import House
from tests.support import check_clean, every_house, spoil


class HouseTest(unittest.TestCase):
    def place(self, rooms, doors):
        with self.assertRaises(BadHouse) as caught:
            House(rooms, doors)
        return caught.exception.place

    def test_class_values(self):
        self.assertEqual((House.MOST_ROOMS, House.SMALL_ROOMS), (12, 6))
        self.assertEqual(House(1, []).MOST_ROOMS, 12)

    def test_one_room(self):
        house = House(1, [])
        self.assertEqual((house.rooms, house.door_count, house.doors(), house.neighbours(0)), (1, 0, [], []))
        self.assertIs(house.has_door(0, 0), False)

    def test_twelve_rooms(self):
        house = House(12, [(11, 0), (5, 6)])
        self.assertEqual((house.rooms, house.door_count, house.doors()), (12, 2, [(0, 11), (5, 6)]))
        self.assertEqual(house.neighbours(11), [0])

    def test_doors_in_any_order_with_either_room_first(self):
        doors = [(2, 0), (1, 3), (1, 0), (3, 2)]
        wanted = [(0, 1), (0, 2), (1, 3), (2, 3)]
        for turned in itertools.product([False, True], repeat=4):
            for order in itertools.permutations(range(4)):
                passed = [doors[k][::-1] if turned[k] else doors[k] for k in order]
                house = House(4, passed)
                self.assertEqual(house.doors(), wanted)
                self.assertEqual([house.neighbours(room) for room in range(4)], [[1, 2], [0, 3], [0, 3], [1, 2]])

    def test_neighbours_and_has_door(self):
        for house in every_house(4):
            doors = house.doors()
            self.assertEqual(doors, sorted(set(doors)))
            self.assertEqual(house.door_count, len(doors))
            for a in range(4):
                near = [b for b in range(4) if (a, b) in doors or (b, a) in doors]
                self.assertEqual(house.neighbours(a), near)
                for b in range(4):
                    self.assertIs(house.has_door(a, b), b in near)

    def test_bad_number_of_rooms(self):
        for rooms in (0, -1, -12, 13, 14, 100, 10 ** 9):
            self.assertEqual(self.place(rooms, []), -1)
            self.assertEqual(self.place(rooms, [(0, 0), (0, 1)]), -1)

    def test_a_number_that_is_not_a_room(self):
        self.assertEqual(self.place(3, [(0, 3)]), 0)
        self.assertEqual(self.place(3, [(3, 0)]), 0)
        self.assertEqual(self.place(3, [(0, 1), (-1, 2)]), 1)
        self.assertEqual(self.place(3, [(0, 1), (2, -1)]), 1)
        self.assertEqual(self.place(12, [(0, 1), (10, 11), (11, 12)]), 2)
        self.assertEqual(self.place(1, [(0, 1)]), 0)

    def test_the_same_room_twice(self):
        self.assertEqual(self.place(3, [(1, 1)]), 0)
        self.assertEqual(self.place(3, [(0, 1), (1, 2), (0, 0)]), 2)
        self.assertEqual(self.place(1, [(0, 0)]), 0)

    def test_a_door_twice(self):
        self.assertEqual(self.place(3, [(0, 1), (0, 1)]), 1)
        self.assertEqual(self.place(3, [(0, 1), (1, 2), (1, 0)]), 2)
        self.assertEqual(self.place(3, [(2, 1), (0, 1), (1, 2)]), 2)

    def test_the_first_wrong_entry_counts(self):
        self.assertEqual(self.place(3, [(0, 1), (1, 0), (2, 2), (0, 9)]), 1)
        self.assertEqual(self.place(3, [(0, 9), (0, 0), (0, 1), (0, 1)]), 0)
        self.assertEqual(self.place(3, [(0, 1), (2, 2), (0, 1)]), 1)

    def test_corridor(self):
        for rooms in range(1, 13):
            house = House.corridor(rooms)
            self.assertEqual((house.rooms, house.doors()), (rooms, [(k, k + 1) for k in range(rooms - 1)]))

    def test_ring(self):
        self.assertEqual(House.ring(1).doors(), [])
        self.assertEqual(House.ring(2).doors(), [(0, 1)])
        self.assertEqual(House.ring(3).doors(), [(0, 1), (0, 2), (1, 2)])
        for rooms in range(3, 13):
            wanted = sorted([(k, k + 1) for k in range(rooms - 1)] + [(0, rooms - 1)])
            self.assertEqual((House.ring(rooms).rooms, House.ring(rooms).doors()), (rooms, wanted))

    def test_star(self):
        for rooms in range(1, 13):
            house = House.star(rooms)
            self.assertEqual((house.rooms, house.doors()), (rooms, [(0, k) for k in range(1, rooms)]))

    def test_full(self):
        for rooms in range(1, 13):
            house = House.full(rooms)
            self.assertEqual((house.rooms, house.doors()), (rooms, list(itertools.combinations(range(rooms), 2))))
        self.assertEqual(House.full(12).door_count, 66)

    def test_shapes_are_new_houses(self):
        for shape in (House.corridor, House.ring, House.star, House.full):
            self.assertIsInstance(shape(4), House)
            self.assertIsNot(shape(4), shape(4))

    def test_shapes_with_a_bad_number_of_rooms(self):
        for shape in (House.corridor, House.ring, House.star, House.full):
            for rooms in (0, -1, 13, 10 ** 12):
                with self.assertRaises(BadHouse) as caught:
                    shape(rooms)
                self.assertEqual(caught.exception.place, -1)

    def test_passed_doors_do_not_matter_later(self):
        doors = [(2, 1), (1, 0)]
        house = House(3, doors)
        self.assertEqual(doors, [(2, 1), (1, 0)])
        doors.append((0, 2))
        doors[0] = (0, 2)
        self.assertEqual((house.doors(), house.door_count), ([(0, 1), (1, 2)], 2))
        self.assertEqual(house.neighbours(0), [1])

    def test_returned_lists_do_not_matter_later(self):
        house = House.ring(4)
        check_clean(self, house.doors)
        check_clean(self, house.neighbours, 0)
        spoil(house.doors())
        spoil(house.neighbours(1))
        self.assertEqual((house.door_count, house.has_door(0, 1), house.neighbours(1)), (4, True, [0, 2]))
