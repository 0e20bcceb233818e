"""callsheard/orders.py: [30], [34] and [37] and the interface."""

import itertools
import math
import random
import unittest

from callsheard.errors import NotAnOrder, OutOfRange, TooLarge
from callsheard.forced import keeps_form
from callsheard.forms import form_of, silent_form
from callsheard.house import House
from callsheard.orders import count_orders, kth_order, rank_of_order, walk_orders
from tests.support import a_log, blocks_in_order, check_clean, order_trials, rooms_of, some_houses

ALPHABET = "abcdefghijkl"
HOUSE = House.corridor(3)
FORM = form_of(HOUSE, [(2, "horn"), (0, "bell"), (1, "bell")])


def check_range(test, house, form, count):
    for k in (-1, -count, -count - 1, count, count + 1, 10 ** 12):
        with test.assertRaises(OutOfRange) as caught:
            kth_order(house, form, k)
        test.assertEqual(caught.exception.count, count)


def kth_permutation(k, rooms):
    left = list(range(rooms))
    order = ()
    while left:
        step, k = divmod(k, math.factorial(len(left) - 1))
        order += (left.pop(step),)
    return order


class ListedOrdersTest(unittest.TestCase):
    def test_example_of_the_document(self):
        orders = [(0, 2, 1), (2, 0, 1), (2, 1, 0)]
        self.assertEqual(count_orders(HOUSE, FORM), 3)
        self.assertEqual([kth_order(HOUSE, FORM, k) for k in range(3)], orders)
        self.assertEqual([rank_of_order(HOUSE, FORM, order) for order in orders], [0, 1, 2])
        self.assertEqual(list(walk_orders(HOUSE, FORM)), orders)
        check_range(self, HOUSE, FORM, 3)

    def test_all_orders_of_small_houses(self):
        for house, form, orders in order_trials():
            self.assertEqual(count_orders(house, form), len(orders))
            self.assertEqual(list(walk_orders(house, form)), orders)
            for k in sorted({0, len(orders) // 3, len(orders) // 2, len(orders) - 1}):
                self.assertEqual(kth_order(house, form, k), orders[k])
                self.assertEqual(rank_of_order(house, form, orders[k]), k)
            check_range(self, house, form, len(orders))

    def test_each_number(self):
        for house, form, orders in order_trials()[::7]:
            self.assertEqual([kth_order(house, form, k) for k in range(len(orders))], orders)
            self.assertEqual([rank_of_order(house, form, order) for order in orders], list(range(len(orders))))

    def test_six_rooms(self):
        dice = random.Random(1021)
        for house in some_houses(1022, 6, 12):
            form = form_of(house, a_log(dice, 6, 14, ["a", "b", "c"]))
            orders = list(walk_orders(house, form))
            called = sorted(orders[0])
            wanted = [order for order in itertools.permutations(called) if keeps_form(house, form, order)]
            self.assertEqual(orders, wanted)
            self.assertEqual(count_orders(house, form), len(orders))
            for k, order in enumerate(orders):
                self.assertEqual((kth_order(house, form, k), rank_of_order(house, form, order)), (order, k))

    def test_720_orders(self):
        house = House.full(6)
        form = form_of(house, [(room, "a") for room in range(6)])
        self.assertEqual(list(walk_orders(house, form)), list(itertools.permutations(range(6))))

    def test_no_called_room(self):
        for house in (House(1, []), House.full(6), House(12, [])):
            form = silent_form(house)
            self.assertEqual((count_orders(house, form), kth_order(house, form, 0)), (1, ()))
            self.assertEqual(rank_of_order(house, form, ()), 0)
            check_range(self, house, form, 1)
        self.assertEqual(list(walk_orders(House.full(6), silent_form(House.full(6)))), [()])

    def test_one_room(self):
        house = House(1, [])
        form = form_of(house, [(0, "a")])
        self.assertEqual((count_orders(house, form), kth_order(house, form, 0)), (1, (0,)))
        self.assertEqual((rank_of_order(house, form, (0,)), list(walk_orders(house, form))), (0, [(0,)]))


class TwelveRoomsTest(unittest.TestCase):
    def test_as_many_orders_as_there_can_be(self):
        for house, words in ((House.full(12), "a" * 12), (House(12, []), ALPHABET)):
            form = form_of(house, [(room, words[room]) for room in range(12)])
            self.assertEqual(count_orders(house, form), 479001600)
            for k in (0, 1, 39916799, 39916800, 123456789, 400000000, 479001598, 479001599):
                order = kth_permutation(k, 12)
                self.assertEqual(kth_order(house, form, k), order)
                self.assertEqual(rank_of_order(house, form, order), k)
            check_range(self, house, form, 479001600)

    def test_only_one_order(self):
        house = House.full(12)
        rooms = [7, 3, 11, 0, 5, 9, 1, 10, 2, 8, 4, 6]
        form = form_of(house, [(room, ALPHABET[room]) for room in rooms])
        self.assertEqual((count_orders(house, form), kth_order(house, form, 0)), (1, tuple(rooms)))
        self.assertEqual(rank_of_order(house, form, tuple(rooms)), 0)
        with self.assertRaises(NotAnOrder):
            rank_of_order(house, form, tuple(range(12)))

    def test_the_number_if_no_two_called_rooms_have_the_same_word(self):
        dice = random.Random(1023)
        for rooms in (3, 5, 8, 12):
            for house in some_houses(1024 + rooms, rooms, 12):
                called = dice.sample(range(rooms), dice.randrange(1, rooms + 1))
                form = form_of(house, [(room, ALPHABET[room]) for room in called])
                divisor = 1
                for block in blocks_in_order(form):
                    if block[0] is not None:
                        divisor *= len([room for room in rooms_of(block) if room in called])
                count = math.factorial(len(called)) // divisor
                self.assertEqual(count_orders(house, form), count)
                for k in (0, dice.randrange(count), count - 1):
                    order = kth_order(house, form, k)
                    self.assertIs(keeps_form(house, form, order), True)
                    self.assertEqual(rank_of_order(house, form, order), k)

    def test_numbers_and_orders_with_equal_words(self):
        dice = random.Random(1025)
        for house in some_houses(1026, 12, 10):
            form = form_of(house, a_log(dice, 12, 40, ["a", "b", "c"]))
            count = count_orders(house, form)
            numbers = sorted({0, count - 1} | {dice.randrange(count) for _ in range(6)})
            orders = [kth_order(house, form, k) for k in numbers]
            self.assertEqual(orders, sorted(orders))
            self.assertEqual([rank_of_order(house, form, order) for order in orders], numbers)
            self.assertTrue(all(keeps_form(house, form, order) for order in orders))


class ErrorsTest(unittest.TestCase):
    def test_not_an_order(self):
        for order in ((1, 2, 0), (0, 1, 2), (0, 2), (2, 1, 0, 0), (2, 1, 1), (2, 1, 3), (-1, 2, 1), ()):
            with self.assertRaises(NotAnOrder):
                rank_of_order(HOUSE, FORM, order)
        with self.assertRaises(NotAnOrder):
            rank_of_order(House(1, []), silent_form(House(1, [])), (0,))

    def test_large_houses_are_not_walked(self):
        for rooms in (7, 12):
            for house in (House(rooms, []), House.full(rooms)):
                with self.assertRaises(TooLarge) as caught:
                    for _ in walk_orders(house, silent_form(house)):
                        pass
                self.assertEqual(caught.exception.size, rooms)

    def test_clean(self):
        check_clean(self, kth_order, HOUSE, FORM, 2)
        check_clean(self, rank_of_order, HOUSE, FORM, (2, 1, 0))
        orders = walk_orders(HOUSE, FORM)
        first = next(iter(orders))
        found = [first]
        for order in orders:
            found.append(order)
        found.append("changed")
        self.assertEqual(found[:3], list(walk_orders(HOUSE, FORM)))
        self.assertTrue(all(type(order) is tuple for order in found[:3]))
