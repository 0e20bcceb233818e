"""callsheard/exchanges.py: [35] to [37] and the interface."""

import itertools
import random
import unittest

from callsheard.errors import TooLarge
from callsheard.exchanges import exchanges, nearest_order, pairs_apart
from callsheard.forced import keeps_form
from callsheard.forms import form_of, silent_form
from callsheard.house import House
from callsheard.orders import count_orders, kth_order
from tests.support import a_log, check_clean, order_trials, some_houses


def apart_by_definition(first, second):
    pairs = itertools.combinations(sorted(first), 2)
    return len([1 for a, b in pairs if (first.index(a) < first.index(b)) != (second.index(a) < second.index(b))])


def exchanges_by_definition(first, second):
    """The exchanges, and all orders from the first to the second one."""
    row, indexes, passed = list(first), [], [tuple(first)]
    while tuple(row) != tuple(second):
        k = [k for k in range(len(row) - 1) if second.index(row[k]) > second.index(row[k + 1])][0]
        row[k:k + 2] = [row[k + 1], row[k]]
        indexes.append(k)
        passed.append(tuple(row))
    return indexes, passed


class ExchangesTest(unittest.TestCase):
    def test_all_pairs_of_orders_of_four_rooms(self):
        for first, second in itertools.product(itertools.permutations((0, 3, 5, 11)), repeat=2):
            apart = apart_by_definition(first, second)
            self.assertEqual(pairs_apart(first, second), apart)
            found = exchanges(first, second)
            self.assertEqual(found, exchanges_by_definition(first, second)[0])
            self.assertEqual(len(found), apart)

    def test_no_shorter_list(self):
        start = (2, 0, 3, 1)
        steps = {start: 0}
        waiting = [start]
        for order in waiting:
            for k in range(3):
                other = order[:k] + (order[k + 1], order[k]) + order[k + 2:]
                if other not in steps:
                    steps[other] = steps[order] + 1
                    waiting.append(other)
        self.assertEqual(len(steps), 24)
        for goal, count in steps.items():
            self.assertEqual((len(exchanges(start, goal)), pairs_apart(start, goal)), (count, count))

    def test_the_least_index_comes_first(self):
        self.assertEqual(exchanges((0, 1, 2), (2, 1, 0)), [0, 1, 0])
        self.assertEqual(exchanges((0, 1, 2, 3), (1, 0, 3, 2)), [0, 2])
        self.assertEqual(exchanges((2, 0, 1), (0, 1, 2)), [0, 1])

    def test_edges(self):
        self.assertEqual((pairs_apart((), ()), exchanges((), ())), (0, []))
        self.assertEqual((pairs_apart((7,), (7,)), exchanges((7,), (7,))), (0, []))
        rooms = tuple(range(12))
        self.assertEqual(pairs_apart(rooms, rooms[::-1]), 66)
        self.assertEqual(exchanges(rooms, rooms[::-1]), exchanges_by_definition(rooms, rooms[::-1])[0])
        self.assertEqual((pairs_apart(rooms, rooms), exchanges(rooms, rooms)), (0, []))

    def test_twelve_rooms(self):
        dice = random.Random(1031)
        for _ in range(30):
            first, second = tuple(dice.sample(range(12), 12)), tuple(dice.sample(range(12), 12))
            self.assertEqual(pairs_apart(first, second), apart_by_definition(first, second))
            self.assertEqual(exchanges(first, second), exchanges_by_definition(first, second)[0])
            self.assertEqual(len(exchanges(first, second)), pairs_apart(first, second))

    def test_all_orders_in_between_keep_the_form(self):
        dice = random.Random(1032)
        trials = [(house, form) for house, form, orders in order_trials()[::4] if len(orders) > 1]
        trials += [(house, form_of(house, a_log(dice, 12, 40, ["a", "b"]))) for house in some_houses(1033, 12, 8)]
        for house, form in trials:
            count = count_orders(house, form)
            first, second = [kth_order(house, form, dice.randrange(count)) for _ in range(2)]
            row = list(first)
            for k in exchanges(first, second):
                row[k], row[k + 1] = row[k + 1], row[k]
                self.assertIs(keeps_form(house, form, tuple(row)), True)
            self.assertEqual(tuple(row), second)


class NearestOrderTest(unittest.TestCase):
    def test_example_of_the_document(self):
        house = House.corridor(3)
        form = form_of(house, [(2, "horn"), (0, "bell"), (1, "bell")])
        self.assertEqual(nearest_order(house, form, (1, 2, 0)), (1, (2, 1, 0)))

    def test_against_all_orders_that_keep_the_form(self):
        ties = 0
        for house, form, orders in order_trials():
            for order in list(itertools.permutations(sorted(orders[0])))[::5]:
                wanted = min((apart_by_definition(order, other), other) for other in orders)
                self.assertEqual(nearest_order(house, form, order), wanted)
                ties += len([1 for other in orders if apart_by_definition(order, other) == wanted[0]]) > 1
        self.assertGreater(ties, 20)

    def test_an_order_that_keeps_the_form_is_the_nearest(self):
        for house, form, orders in order_trials()[::5]:
            for order in orders[::3]:
                self.assertEqual(nearest_order(house, form, order), (0, order))

    def test_one_and_six_rooms(self):
        house = House(1, [])
        self.assertEqual(nearest_order(house, silent_form(house), ()), (0, ()))
        self.assertEqual(nearest_order(house, form_of(house, [(0, "a")]), (0,)), (0, (0,)))
        house = House.full(6)
        form = form_of(house, [(room, "abcdef"[room]) for room in range(6)])
        self.assertEqual(nearest_order(house, form, (5, 4, 3, 2, 1, 0)), (15, (0, 1, 2, 3, 4, 5)))

    def test_large_houses(self):
        for rooms in (7, 12):
            for house in (House(rooms, []), House.full(rooms)):
                for log, order in (([], ()), ([(1, "a"), (0, "b")], (0, 1))):
                    with self.assertRaises(TooLarge) as caught:
                        nearest_order(house, form_of(house, log), order)
                    self.assertEqual(caught.exception.size, rooms)

    def test_clean(self):
        house = House.corridor(3)
        form = form_of(house, [(2, "horn"), (0, "bell"), (1, "bell")])
        check_clean(self, pairs_apart, (0, 1, 2), (2, 0, 1))
        check_clean(self, exchanges, (0, 1, 2), (2, 0, 1))
        check_clean(self, nearest_order, house, form, (1, 2, 0))
