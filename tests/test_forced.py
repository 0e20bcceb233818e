"""callsheard/forced.py: [30] to [33] and [37] and the interface."""

import itertools
import random
import unittest

from callsheard.errors import CallsError, NotForced
from callsheard.forced import forced_pairs, forcing_path, keeps_form, sure_pairs
from callsheard.forms import form_of, silent_form
from callsheard.house import House
from callsheard.logs import log_of
from tests.support import (
    a_log, blocks_in_order, check_clean, form_by_definition, form_trials, order_trials, paths_of, rooms_of, word_in,
)

ALPHABET = "abcdefghijkl"
HOUSE = House.corridor(3)
FORM = form_of(HOUSE, [(2, "horn"), (0, "bell"), (1, "bell")])


def forced_by_definition(house, form):
    found = set()
    for outer in blocks_in_order(form):
        for inside in blocks_in_order(outer[2]):
            for z, x in itertools.product(inside[1], outer[1]):
                doors = [door for door in house.doors() if x in door and set(door) & set(rooms_of(inside))]
                if inside[0] is not None and outer[0] is not None and inside[0] != outer[0] and doors:
                    found.add((z, x))
    return sorted(found)


def path_by_definition(house, form, z, x):
    block = [block for block in blocks_in_order(form) if z in block[1]][0]
    paths = paths_of(house, rooms_of(block) + [x])
    return [path for path in paths if path[0] == z and path[-1] == x and x not in path[:-1]][0]


def words_by(form):
    return {room: block[0] for block in blocks_in_order(form) for room in block[1]}


class ForcedPairsTest(unittest.TestCase):
    def test_example_of_the_document(self):
        self.assertEqual(FORM, (("bell", (0, 1), (("horn", (2,), ()),)),))
        self.assertEqual(forced_pairs(HOUSE, FORM), [(2, 1)])

    def test_against_the_definition(self):
        for house, log in form_trials(1011):
            form = form_by_definition(house, log)
            self.assertEqual(forced_pairs(house, form), forced_by_definition(house, form))

    def test_an_order_keeps_the_form_exactly_if_it_obeys_them(self):
        for house, form, orders in order_trials():
            pairs = forced_pairs(house, form)
            called = [room for room, word in sorted(words_by(form).items()) if word is not None]
            obeying = [
                order for order in itertools.permutations(called)
                if all(order.index(z) < order.index(x) for z, x in pairs)
            ]
            self.assertEqual(obeying, orders)

    def test_deep_blocks_and_equal_words(self):
        # The block inside the block inside has the outer word again, so it forces nothing there.
        form = form_of(HOUSE, [(0, "a"), (1, "b"), (2, "a")])
        self.assertEqual(form, (("a", (2,), (("b", (1,), (("a", (0,), ()),)),)),))
        self.assertEqual(forced_pairs(HOUSE, form), [(0, 1), (1, 2)])
        # The block of room 0 lies strictly inside that of room 2, but no door joins room 2 to room 0.
        house = House(4, [(0, 1), (1, 2), (2, 3)])
        form = form_of(house, [(0, "a"), (1, "b"), (2, "c"), (3, "d")])
        self.assertEqual(forced_pairs(house, form), [(0, 1), (1, 2), (2, 3)])
        form = form_of(house, [(1, "b"), (0, "a"), (3, "d"), (2, "c")])
        # Here room 1 of the block of room 0 is beside room 2.
        self.assertEqual(forced_pairs(house, form), [(0, 2), (1, 0), (1, 2), (3, 2)])

    def test_full_houses_of_twelve_rooms(self):
        house = House.full(12)
        form = form_of(house, [(room, ALPHABET[room]) for room in range(12)])
        self.assertEqual(forced_pairs(house, form), list(itertools.combinations(range(12), 2)))
        form = form_of(house, [(room, "ab"[room % 2]) for room in range(12)])
        wanted = [(z, x) for z, x in itertools.combinations(range(12), 2) if (x - z) % 2]
        self.assertEqual(forced_pairs(house, form), wanted)
        form = form_of(house, [(room, "a") for room in range(12)])
        self.assertEqual(forced_pairs(house, form), [])

    def test_one_room_and_no_called_room(self):
        house = House(1, [])
        self.assertEqual(forced_pairs(house, form_of(house, [(0, "a")])), [])
        for house in (House(1, []), House.full(12), House(12, [])):
            form = silent_form(house)
            self.assertEqual((forced_pairs(house, form), sure_pairs(house, form)), ([], []))

    def test_silent_rooms_force_nothing_but_lead_on(self):
        self.assertEqual(forced_pairs(HOUSE, form_of(HOUSE, [(1, "a")])), [])
        house = House.corridor(4)
        form = form_of(house, [(0, "a"), (3, "b")])
        self.assertEqual(form, (("b", (3,), (("a", (0,), ((None, (1, 2), ()),)),)),))
        self.assertEqual(forced_pairs(house, form), [(0, 3)])


class ForcingPathTest(unittest.TestCase):
    def test_example_of_the_document(self):
        self.assertEqual(forcing_path(HOUSE, FORM, 2, 1), (2, 1))

    def test_against_the_definition(self):
        lengths = set()
        for house, log in form_trials(1012):
            form = form_by_definition(house, log)
            for z, x in forced_by_definition(house, form):
                path = forcing_path(house, form, z, x)
                self.assertEqual(path, path_by_definition(house, form, z, x))
                self.assertIs(type(path), tuple)
                words = words_by(form)
                self.assertEqual((word_in(log, path[:-1]), word_in(log, path)), (words[z], words[x]))
                lengths.add(len(path))
        self.assertLessEqual({2, 3, 4}, lengths)

    def test_the_first_path_inside_the_block(self):
        # The shorter way round by room 4 leaves the block of room 0, since room 4 is called later.
        house = House(5, [(0, 1), (1, 2), (2, 3), (0, 4), (3, 4)])
        form = form_of(house, [(0, "a"), (3, "b"), (4, "c")])
        self.assertEqual(forcing_path(house, form, 0, 3), (0, 1, 2, 3))
        self.assertEqual(forcing_path(house, form, 3, 4), (3, 4))
        house = House(5, [(0, 2), (0, 3), (2, 4), (3, 4)])
        self.assertEqual(forcing_path(house, form_of(house, [(4, "a"), (0, "b")]), 4, 0), (4, 2, 0))

    def test_twelve_rooms(self):
        house = House.corridor(12)
        form = form_of(house, [(11, "a"), (0, "b")])
        self.assertEqual(forcing_path(house, form, 11, 0), tuple(range(11, -1, -1)))

    def test_pairs_that_are_not_forced(self):
        for house, form in [(HOUSE, FORM)] + [trial[:2] for trial in order_trials()[::9]]:
            forced = forced_by_definition(house, form)
            for pair in itertools.product(range(house.rooms), repeat=2):
                if pair not in forced:
                    with self.assertRaises(NotForced):
                        forcing_path(house, form, *pair)

    def test_a_sure_pair_that_is_not_forced(self):
        form = form_of(HOUSE, [(0, "a"), (1, "b"), (2, "a")])
        self.assertIn((0, 2), sure_pairs(HOUSE, form))
        with self.assertRaises(CallsError) as caught:
            forcing_path(HOUSE, form, 0, 2)
        self.assertIs(type(caught.exception), NotForced)


class SurePairsTest(unittest.TestCase):
    def test_what_all_orders_that_keep_the_form_say(self):
        longer = 0
        for house, form, orders in order_trials():
            called = sorted(orders[0])
            wanted = [
                (a, b) for a, b in itertools.permutations(called, 2)
                if all(order.index(a) < order.index(b) for order in orders)
            ]
            self.assertEqual(sure_pairs(house, form), wanted)
            longer += sure_pairs(house, form) != forced_pairs(house, form)
        self.assertGreater(longer, 5)

    def test_a_chain_of_twelve_rooms(self):
        house = House.corridor(12)
        form = form_of(house, [(room, "ab"[room % 2]) for room in range(12)])
        self.assertEqual(forced_pairs(house, form), [(room, room + 1) for room in range(11)])
        self.assertEqual(sure_pairs(house, form), list(itertools.combinations(range(12), 2)))

    def test_example_of_the_document(self):
        self.assertEqual(sure_pairs(HOUSE, FORM), [(2, 1)])


class KeepsFormTest(unittest.TestCase):
    def test_example_of_the_document(self):
        kept = [order for order in itertools.permutations(range(3)) if keeps_form(HOUSE, FORM, order)]
        self.assertEqual(kept, [(0, 2, 1), (2, 0, 1), (2, 1, 0)])

    def test_the_form_of_the_log_of_the_order(self):
        results = set()
        for house, form, orders in order_trials():
            for order in itertools.permutations(sorted(orders[0])):
                self.assertIs(keeps_form(house, form, order), order in orders)
                results.add(order in orders)
        self.assertEqual(results, {True, False})

    def test_twelve_rooms(self):
        dice = random.Random(1013)
        results = set()
        for house in (House.corridor(12), House.ring(12), House.full(12), House.star(12)):
            for _ in range(15):
                log = a_log(dice, 12, 30, ["a", "b"])
                form = form_of(house, log)
                words = [words_by(form)[room] for room in range(12)]
                order = [room for room in dice.sample(range(12), 12) if words[room] is not None]
                if dice.random() < 0.5:
                    order = [room for at, (room, _) in enumerate(log) if room not in [call[0] for call in log[at + 1:]]]
                kept = form_of(house, log_of(words, order)) == form
                self.assertIs(keeps_form(house, form, tuple(order)), kept)
                results.add(kept)
        self.assertEqual(results, {True, False})

    def test_tuples_that_are_no_orders_of_the_form(self):
        form = form_of(HOUSE, [(2, "a"), (0, "b")])
        self.assertIs(keeps_form(HOUSE, form, (2, 0)), True)
        for order in ((), (0,), (2,), (0, 2), (2, 0, 1), (1, 2, 0), (2, 2, 0), (2, 0, 0), (2, 3), (-1, 0), (2, 0, 99)):
            self.assertIs(keeps_form(HOUSE, form, order), False, order)

    def test_no_called_room(self):
        for house in (House(1, []), House.full(12)):
            form = silent_form(house)
            self.assertIs(keeps_form(house, form, ()), True)
            self.assertIs(keeps_form(house, form, (0,)), False)


class CleanTest(unittest.TestCase):
    def test_lists(self):
        form = form_of(HOUSE, [(0, "a"), (1, "b"), (2, "a")])
        check_clean(self, forced_pairs, HOUSE, form)
        check_clean(self, forcing_path, HOUSE, form, 0, 1)
        check_clean(self, sure_pairs, HOUSE, form)
        check_clean(self, keeps_form, HOUSE, form, (0, 1, 2))
