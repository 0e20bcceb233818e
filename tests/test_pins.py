"""callsheard/pins.py: [45] to [47] and the interface."""

import itertools
import random
import unittest

from callsheard.errors import NotForced
from callsheard.facts import Facts
from callsheard.forced import forced_pairs, keeps_form, sure_pairs
from callsheard.forms import form_of, silent_form
from callsheard.house import House
from callsheard.logs import log_of
from callsheard.pins import belongs, least_pairs, near_miss, pins
from tests.support import (
    a_log, all_fitting_orders, blocks_in_order, check_clean, order_trials, parts_of, pieces_of, rooms_of, some_houses,
    subsets, word_in,
)

ALPHABET = "abcdefghijkl"
HOUSE = House.corridor(3)
FORM = form_of(HOUSE, [(0, "bell"), (2, "horn"), (1, "drum")])


def sure_by_definition(orders):
    return [
        (a, b) for a, b in itertools.permutations(sorted(orders[0]), 2)
        if all(order.index(a) < order.index(b) for order in orders)
    ]


def least_by_definition(pairs):
    return [(a, b) for a, b in pairs if not any((a, c) in pairs and (c, b) in pairs for c in range(12))]


def words_by(house, form):
    words = {room: block[0] for block in blocks_in_order(form) for room in block[1]}
    return [words[room] for room in range(house.rooms)]


def word_by(form, rooms):
    """The word of the smallest block that holds the rooms."""
    holding = [block for block in blocks_in_order(form) if set(rooms) <= set(rooms_of(block))]
    return min(holding, key=lambda block: len(rooms_of(block)))[0]


def belongs_by_definition(form, part):
    holding = [block for block in blocks_in_order(form) if set(part) <= set(rooms_of(block))]
    tops = min(holding, key=lambda block: len(rooms_of(block)))[1]
    owners = [x for x in tops if not any(other in part for other in tops if other != x)]
    return owners[0] if owners else None


def near_miss_by_definition(pairs, least, called, x):
    before = [a for a, b in pairs if b == x]
    z = min(a for a, b in least if b == x)

    def first_order(rooms):
        return min(
            order for order in itertools.permutations(rooms)
            if all(order.index(a) < order.index(b) for a, b in pairs if a in rooms and b in rooms)
        )

    first = [room for room in before if room != z]
    return first_order(first) + (x, z) + first_order([room for room in called if room not in first + [x, z]])


class LeastPairsTest(unittest.TestCase):
    def test_against_all_orders(self):
        fewer = 0
        for house, form, orders in order_trials():
            pairs = sure_by_definition(orders)
            found = least_pairs(house, form)
            self.assertEqual(found, least_by_definition(pairs))
            fewer += found != pairs
        self.assertGreater(fewer, 10)

    def test_they_leave_only_orders_that_keep_the_form(self):
        for house, form, orders in order_trials()[::3]:
            self.assertEqual(all_fitting_orders(words_by(house, form), least_pairs(house, form), []), orders)

    def test_each_set_of_sure_pairs_that_does_so_holds_them(self):
        for house, form, orders in order_trials()[::9]:
            pairs, least = sure_by_definition(orders), least_pairs(house, form)
            for left_out in least:
                chosen = [pair for pair in pairs if pair != left_out]
                self.assertNotEqual(all_fitting_orders(words_by(house, form), chosen, []), orders)

    def test_edges(self):
        self.assertEqual(least_pairs(HOUSE, FORM), [(0, 1), (2, 1)])
        house = House.full(12)
        form = form_of(house, [(room, ALPHABET[room]) for room in range(12)])
        self.assertEqual(least_pairs(house, form), [(room, room + 1) for room in range(11)])
        for house in (House(1, []), House.full(12)):
            self.assertEqual(least_pairs(house, silent_form(house)), [])
        # A forced pair that follows from two other ones is not among the least pairs.
        house = House.ring(3)
        form = form_of(house, [(0, "a"), (1, "b"), (2, "c")])
        self.assertEqual(forced_pairs(house, form), [(0, 1), (0, 2), (1, 2)])
        self.assertEqual(least_pairs(house, form), [(0, 1), (1, 2)])


class PinsTest(unittest.TestCase):
    def test_example_of_the_document(self):
        self.assertEqual(pins(HOUSE, FORM), [(1, (0, 1, 2))])

    def test_against_the_definition(self):
        for house, form, orders in order_trials():
            wanted = []
            for x in sorted({x for z, x in forced_pairs(house, form)}):
                block = [block for block in blocks_in_order(form) if x in block[1]][0]
                inside = [room for room in rooms_of(block) if room == x or room not in block[1]]
                wanted += [(x, piece) for piece in pieces_of(house, inside) if x in piece]
            self.assertEqual(pins(house, form), wanted)

    def test_the_parts_of_the_pins_pin_the_form(self):
        for house, form, orders in order_trials():
            heard = [(part, word_by(form, part)) for _, part in pins(house, form)]
            self.assertEqual(all_fitting_orders(words_by(house, form), [], heard), orders)
            for room, part in pins(house, form):
                self.assertEqual(belongs(form, part), room)

    def test_each_set_that_pins_has_a_part_of_each_pinned_room(self):
        pinning = 0
        for house, form, orders in order_trials():
            parts = [part for part in parts_of(house) if len(part) > 1]
            if len(orders) > 1 and len(parts) <= 6 or len(parts) <= 3:
                words = words_by(house, form)
                for chosen in subsets(parts):
                    heard = [(part, word_by(form, part)) for part in chosen]
                    if all_fitting_orders(words, [], heard) == orders:
                        owners = {belongs(form, part) for part in chosen}
                        self.assertLessEqual({room for room, _ in pins(house, form)}, owners)
                        pinning += 1
        self.assertGreater(pinning, 100)

    def test_tops_of_one_block_have_a_pin_each(self):
        house = House.corridor(5)
        form = form_of(house, [(0, "a"), (2, "a"), (4, "a"), (1, "b"), (3, "b")])
        self.assertEqual(pins(house, form), [(1, (0, 1, 2)), (3, (2, 3, 4))])
        form = form_of(house, [(2, "c"), (1, "b"), (3, "b")])
        self.assertEqual(pins(house, form), [(1, (0, 1, 2)), (3, (2, 3, 4))])

    def test_edges(self):
        for house in (House(1, []), House.full(12), House(12, [])):
            self.assertEqual(pins(house, silent_form(house)), [])
            self.assertEqual(pins(house, form_of(house, [(room, "a") for room in range(house.rooms)])), [])
        house = House.full(12)
        form = form_of(house, [(room, ALPHABET[room]) for room in range(12)])
        self.assertEqual(pins(house, form), [(room, tuple(range(room + 1))) for room in range(1, 12)])

    def test_twelve_rooms(self):
        for house in some_houses(1061, 12, 12):
            form = form_of(house, a_log(random.Random(house.door_count), 12, 30, ["a", "b"]))
            found = pins(house, form)
            self.assertEqual([room for room, _ in found], sorted({x for z, x in forced_pairs(house, form)}))
            for room, part in found:
                self.assertEqual((belongs(form, part), belongs_by_definition(form, part)), (room, room))


class BelongsTest(unittest.TestCase):
    def test_against_the_definition(self):
        results = set()
        for house, form, _ in order_trials():
            for part in parts_of(house):
                wanted = belongs_by_definition(form, part)
                self.assertEqual(belongs(form, part), wanted)
                self.assertEqual(belongs(form, list(part)[::-1]), wanted)
                results.add(wanted)
        self.assertEqual(results, {None, 0, 1, 2, 3, 4})

    def test_some_parts(self):
        form = form_of(HOUSE, [(2, "horn"), (0, "bell"), (1, "bell")])
        self.assertEqual([belongs(form, part) for part in ((0,), (1,), (2,))], [0, 1, 2])
        self.assertEqual([belongs(form, part) for part in ((0, 1), (1, 2), (0, 1, 2))], [None, 1, None])

    def test_silent_rooms(self):
        for house in (House.corridor(3), House.full(12)):
            form = silent_form(house)
            self.assertEqual([belongs(form, (room,)) for room in range(3)], [0, 1, 2])
            self.assertIsNone(belongs(form, (0, 1)))
            self.assertIsNone(belongs(form, tuple(range(house.rooms))))


class NearMissTest(unittest.TestCase):
    def test_example_of_the_document(self):
        self.assertEqual((forced_pairs(HOUSE, FORM), least_pairs(HOUSE, FORM)), ([(0, 1), (2, 1)],) * 2)
        self.assertEqual(near_miss(HOUSE, FORM, 1), (2, 1, 0))
        log = log_of(["bell", "drum", "horn"], (2, 1, 0))
        changed = [part for part in parts_of(HOUSE) if word_in(log, part) != word_by(FORM, part)]
        self.assertEqual(changed, [(0, 1), (0, 1, 2)])
        self.assertEqual([belongs(FORM, part) for part in changed], [1, 1])

    def test_against_the_definition(self):
        count = 0
        for house, form, orders in order_trials():
            pairs = sure_by_definition(orders)
            for x in sorted({b for a, b in forced_pairs(house, form)}):
                wanted = near_miss_by_definition(pairs, least_by_definition(pairs), sorted(orders[0]), x)
                self.assertEqual(near_miss(house, form, x), wanted)
                count += 1
        self.assertGreater(count, 200)

    def test_it_does_not_keep_the_form_and_changes_only_what_belongs_to_the_room(self):
        trials = [trial[:2] for trial in order_trials()]
        dice = random.Random(1062)
        trials += [(house, form_of(house, a_log(dice, 6, 15, ["a", "b", "c"]))) for house in some_houses(1063, 6, 20)]
        for house, form in trials:
            for x, _ in pins(house, form):
                order = near_miss(house, form, x)
                log = log_of(words_by(house, form), order)
                self.assertIs(keeps_form(house, form, order), False)
                self.assertNotEqual(form_of(house, log), form)
                changed = [part for part in parts_of(house) if word_in(log, part) != word_by(form, part)]
                self.assertEqual({belongs(form, part) for part in changed}, {x})

    def test_eight_rooms_in_a_row(self):
        house = House.full(8)
        form = form_of(house, [(room, ALPHABET[room]) for room in (4, 7, 1, 3, 0, 6, 2, 5)])
        self.assertEqual(near_miss(house, form, 0), (4, 7, 1, 0, 3, 6, 2, 5))
        self.assertEqual(near_miss(house, form, 7), (7, 4, 1, 3, 0, 6, 2, 5))
        self.assertEqual(near_miss(house, form, 5), (4, 7, 1, 3, 0, 6, 5, 2))

    def test_twelve_rooms(self):
        house = House.star(12)
        form = form_of(house, [(room, ALPHABET[room]) for room in range(11, -1, -1)])
        self.assertEqual(pins(house, form), [(0, tuple(range(12)))])
        self.assertEqual(near_miss(house, form, 0), (2, 3, 4, 5, 6, 7, 8, 9, 10, 11, 0, 1))

    def test_rooms_that_are_not_pinned(self):
        for house, form in [(HOUSE, FORM)] + [trial[:2] for trial in order_trials()[::5]]:
            pinned = {x for z, x in forced_pairs(house, form)}
            for room in range(house.rooms):
                if room not in pinned:
                    with self.assertRaises(NotForced):
                        near_miss(house, form, room)
        for house in (House(1, []), House.full(12)):
            with self.assertRaises(NotForced):
                near_miss(house, silent_form(house), 0)

    def test_clean(self):
        form = form_of(House.full(4), [(2, "a"), (0, "b"), (1, "c"), (3, "b")])
        self.assertEqual(Facts(["b", "c", "a", "b"], sure_pairs(House.full(4), form), []).called(), [0, 1, 2, 3])
        check_clean(self, least_pairs, House.full(4), form)
        check_clean(self, pins, House.full(4), form)
        check_clean(self, belongs, form, [2, 0])
        check_clean(self, near_miss, House.full(4), form, 1)
