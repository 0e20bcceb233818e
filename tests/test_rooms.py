"""callsheard/rooms.py: [68] and [69] and the interface."""

import itertools
import random
import unittest

from callsheard.errors import BadHouse
from callsheard.forms import form_of, plain_log, silent_form, words_by_form
from callsheard.house import House
from callsheard.logs import log_of
from callsheard.orders import walk_orders
from callsheard.rooms import form_with, form_without, house_with, house_without
from tests.support import a_log, check_clean, every_house, form_by_definition, form_trials, some_houses

HOUSE = House.corridor(3)
FORM = form_of(HOUSE, [(2, "horn"), (0, "bell"), (1, "bell")])


def renumbered(log, room):
    return [(other - (other > room), word) for other, word in log if other != room]


def check_same_house(test, house, other):
    test.assertIs(type(house), House)
    test.assertEqual((house.rooms, house.doors()), (other.rooms, other.doors()))


def logs_of_the_form(house, form):
    """All logs with one call in each called room that have the form."""
    words = words_by_form(form)
    return [log_of(words, order) for order in walk_orders(house, form)]


class WithoutTest(unittest.TestCase):
    def test_houses_against_the_definition(self):
        for house in itertools.chain(every_house(2), every_house(3), every_house(4), some_houses(1201, 6, 10)):
            for room in range(house.rooms):
                doors = sorted((a - (a > room), b - (b > room)) for a, b in house.doors() if room not in (a, b))
                check_same_house(self, house_without(house, room), House(house.rooms - 1, doors))

    def test_forms_against_the_log_without_the_calls(self):
        for house, log in form_trials(1202, 5):
            form = form_of(house, log)
            for room in range(house.rooms) if house.rooms > 1 else []:
                wanted = form_by_definition(house_without(house, room), renumbered(log, room))
                self.assertEqual(form_without(house, form, room), wanted)

    def test_the_same_for_every_log_of_the_form(self):
        for house, log in list(form_trials(1203, 4))[::5]:
            form = form_of(house, log)
            for room in range(house.rooms) if house.rooms > 1 else []:
                left = house_without(house, room)
                for other in logs_of_the_form(house, form)[:6]:
                    self.assertEqual(form_of(left, renumbered(other, room)), form_without(house, form, room))

    def test_some_forms(self):
        self.assertEqual(form_without(HOUSE, FORM, 1), (("bell", (0,), ()), ("horn", (1,), ())))
        self.assertEqual(form_without(HOUSE, FORM, 2), (("bell", (0, 1), ()),))
        self.assertEqual(form_without(HOUSE, FORM, 0), (("bell", (0,), (("horn", (1,), ()),)),))
        self.assertEqual(form_without(HOUSE, silent_form(HOUSE), 0), silent_form(House.corridor(2)))

    def test_the_last_room_cannot_be_taken_out(self):
        house = House(1, [])
        for form in (silent_form(house), form_of(house, [(0, "a")])):
            for function in (lambda: house_without(house, 0), lambda form=form: form_without(house, form, 0)):
                with self.assertRaises(BadHouse) as caught:
                    function()
                self.assertEqual(caught.exception.place, -1)

    def test_twelve_rooms_and_two_rooms(self):
        dice = random.Random(1204)
        for house in (House.full(12), House.ring(12), House(12, []), House.star(12)):
            log = a_log(dice, 12, 30)
            for room in (0, 5, 11):
                left = house_without(house, room)
                self.assertEqual(left.rooms, 11)
                form = form_without(house, form_of(house, log), room)
                self.assertEqual(form, form_of(left, renumbered(log, room)))
        check_same_house(self, house_without(House.corridor(2), 0), House(1, []))
        check_same_house(self, house_without(House.ring(12), 0), House.corridor(11))
        check_same_house(self, house_without(House.star(12), 0), House(11, []))
        check_same_house(self, house_without(House.full(12), 7), House.full(11))


class WithTest(unittest.TestCase):
    def test_houses_against_the_definition(self):
        dice = random.Random(1205)
        for house in itertools.chain(every_house(1), every_house(2), every_house(3), some_houses(1206, 5, 10)):
            for count in range(house.rooms + 1):
                neighbours = dice.sample(range(house.rooms), count)
                wanted = House(house.rooms + 1, house.doors() + [(room, house.rooms) for room in neighbours])
                check_same_house(self, house_with(house, neighbours), wanted)
                check_same_house(self, house_with(house, tuple(neighbours)), wanted)

    def test_a_word_for_every_log_of_the_form(self):
        dice = random.Random(1207)
        for house, log in list(form_trials(1208, 4))[::2]:
            form = form_of(house, log)
            neighbours = dice.sample(range(house.rooms), dice.randrange(house.rooms + 1))
            longer = house_with(house, neighbours)
            for word in ("bell", "a", "new"):
                found = form_with(house, form, neighbours, word)
                self.assertEqual(found, form_by_definition(longer, log + [(house.rooms, word)]))
                for other in logs_of_the_form(house, form)[:4]:
                    self.assertEqual(found, form_of(longer, other + [(house.rooms, word)]))

    def test_a_silent_room_with_at_most_one_door_for_every_log_of_the_form(self):
        dice = random.Random(1209)
        for house, log in list(form_trials(1210, 4))[::2]:
            form = form_of(house, log)
            for neighbours in ([], [dice.randrange(house.rooms)]):
                found = form_with(house, form, neighbours, None)
                self.assertEqual(found, form_by_definition(house_with(house, neighbours), log))
                for other in logs_of_the_form(house, form)[:4]:
                    self.assertEqual(found, form_of(house_with(house, neighbours), other))

    def test_only_the_plain_log_counts_for_a_silent_room_with_more_doors(self):
        house = House(3, [(0, 1)])
        form = form_of(house, [(2, "horn"), (0, "bell")])
        self.assertEqual(plain_log(form), [(0, "bell"), (2, "horn")])
        wanted = (("horn", (2,), (("bell", (0,), ((None, (1, ), ()), (None, (3,), ()))),)),)
        self.assertEqual(form_with(house, form, [0, 2], None), wanted)
        unlike = 0
        dice = random.Random(1211)
        for house, log in form_trials(1212, 4):
            form = form_of(house, log)
            neighbours = dice.sample(range(house.rooms), min(house.rooms, 2))
            wanted = form_by_definition(house_with(house, neighbours), plain_log(form))
            self.assertEqual(form_with(house, form, neighbours, None), wanted)
            unlike += wanted != form_by_definition(house_with(house, neighbours), log)
        self.assertGreater(unlike, 0)

    def test_taking_the_room_out_again(self):
        dice = random.Random(1213)
        for house, log in form_trials(1214):
            form = form_of(house, log)
            neighbours = dice.sample(range(house.rooms), dice.randrange(house.rooms + 1))
            longer = house_with(house, neighbours)
            check_same_house(self, house_without(longer, house.rooms), house)
            for word in (None, "bell", "new"):
                more = form_with(house, form, neighbours, word)
                self.assertEqual(form_without(longer, more, house.rooms), form)

    def test_some_forms(self):
        self.assertEqual(form_with(HOUSE, FORM, [], None), FORM + ((None, (3,), ()),))
        self.assertEqual(form_with(HOUSE, FORM, [], "drum"), FORM + (("drum", (3,), ()),))
        self.assertEqual(form_with(HOUSE, FORM, (2, 0, 1), "drum"), (("drum", (3,), FORM),))
        self.assertEqual(form_with(HOUSE, FORM, [0], "bell"), (("bell", (0, 1, 3), (("horn", (2,), ()),)),))
        wanted = (("bell", (0, 1), (("horn", (2,), ((None, (3,), ()),)),)),)
        self.assertEqual(form_with(HOUSE, FORM, [2], None), wanted)
        self.assertEqual(form_with(House(1, []), silent_form(House(1, [])), [0], None), ((None, (0, 1), ()),))

    def test_twelve_rooms(self):
        for house in (House(12, []), House.full(12)):
            for form in (silent_form(house), form_of(house, [(3, "a")])):
                for neighbours in ([], [0], list(range(12))):
                    for function in (
                        lambda: house_with(house, neighbours), lambda: form_with(house, form, neighbours, None),
                        lambda: form_with(house, form, neighbours, "a"),
                    ):
                        with self.assertRaises(BadHouse) as caught:
                            function()
                        self.assertEqual(caught.exception.place, -1)

    def test_eleven_rooms(self):
        dice = random.Random(1215)
        for house in (House(11, []), House.full(11), House.corridor(11)):
            log = a_log(dice, 11, 25)
            for neighbours in ([], [4], list(range(10, -1, -1))):
                longer = house_with(house, neighbours)
                self.assertEqual((longer.rooms, longer.neighbours(11)), (12, sorted(neighbours)))
                found = form_with(house, form_of(house, log), neighbours, "bell")
                self.assertEqual(found, form_of(longer, log + [(11, "bell")]))

    def test_clean(self):
        check_clean(self, form_without, HOUSE, FORM, 1)
        check_clean(self, form_with, HOUSE, FORM, [2, 0], "drum")
        check_clean(self, form_with, HOUSE, FORM, [2, 0], None)
        neighbours = [2, 0]
        longer = house_with(HOUSE, neighbours)
        self.assertEqual(neighbours, [2, 0])
        neighbours.append(1)
        longer.doors().append((0, 0))
        check_same_house(self, longer, House(4, [(0, 1), (0, 3), (1, 2), (2, 3)]))
        check_same_house(self, HOUSE, House.corridor(3))
