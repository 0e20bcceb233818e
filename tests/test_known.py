"""callsheard/known.py: [65] to [67] and the interface."""

import copy
import random
import unittest

from callsheard.alike import alike
from callsheard.forms import form_of, is_form, silent_form
from callsheard.hearing import hear
from callsheard.house import House
from callsheard.known import known_answer, settle, settle_form, settle_log
from tests.support import a_log, form_by_definition, heard, pieces_of, some_houses, spoil, subsets, two_logs

RING = House.ring(4)


def known_trials(seed, count, most_rooms=5):
    """Houses with at most 6 doors and known doors each."""
    dice = random.Random(seed)
    for rooms in range(1, most_rooms + 1):
        for house in some_houses(seed + rooms, rooms, count):
            doors = house.doors()
            house = House(rooms, dice.sample(doors, min(len(doors), 6)))
            states = {door: dice.choice(["opened", "shut", "free", "free"]) for door in house.doors()}
            yield house, [[door for door in house.doors() if states[door] == kind] for kind in ("opened", "shut")]


def openings_with(house, opened, shut):
    free = [door for door in house.doors() if door not in opened and door not in shut]
    return [sorted(list(opened) + list(chosen)) for chosen in subsets(free)]


class SettleTest(unittest.TestCase):
    def test_against_the_definition(self):
        for house, (opened, shut) in known_trials(1121, 30):
            settled, places = settle(house, opened=opened, shut=shut)
            groups = pieces_of(House(house.rooms, opened), range(house.rooms))
            self.assertEqual(places, [at for room in range(house.rooms) for at, g in enumerate(groups) if room in g])
            doors = {
                tuple(sorted((places[a], places[b]))) for a, b in house.doors()
                if (a, b) not in shut and places[a] != places[b]
            }
            self.assertEqual((settled.rooms, settled.doors()), (len(groups), sorted(doors)))
            self.assertEqual((type(settled), type(places)), (House, list))

    def test_what_rooms_keep(self):
        dice = random.Random(1122)
        for house, (opened, shut) in known_trials(1123, 6):
            log = a_log(dice, house.rooms, 2 * house.rooms)
            settled, places = settle(house, opened=opened, shut=shut)
            late = settle_log(log, places)
            for opening in openings_with(house, opened, shut):
                new = {tuple(sorted((places[a], places[b]))) for a, b in opening if places[a] != places[b]}
                kept = heard(settled, late, sorted(new))
                self.assertEqual(heard(house, log, opening), [kept[places[room]] for room in range(house.rooms)])

    def test_some_houses(self):
        settled, places = settle(RING, opened=[(0, 3)], shut=[(1, 2)])
        self.assertEqual((settled.rooms, settled.doors(), places), (3, [(0, 1), (0, 2)], [0, 1, 2, 0]))
        settled, places = settle(RING, opened=((1, 2), (2, 3)))
        self.assertEqual((settled.rooms, settled.doors(), places), (2, [(0, 1)], [0, 1, 1, 1]))
        settled, places = settle(RING, opened=((1, 2), (2, 3)), shut=((0, 1), (0, 3)))
        self.assertEqual((settled.rooms, settled.doors(), places), (2, [], [0, 1, 1, 1]))

    def test_no_door_known_and_all_doors_known(self):
        for house in (House(1, []), House.full(12), House.star(5)):
            for known in ({}, {"opened": [], "shut": []}, {"opened": (), "shut": ()}):
                settled, places = settle(house, **known)
                self.assertEqual(settled.doors(), house.doors())
                self.assertEqual(places, list(range(house.rooms)))
            settled, places = settle(house, shut=house.doors())
            self.assertEqual((settled.rooms, settled.doors()), (house.rooms, []))
            settled, places = settle(house, opened=house.doors())
            self.assertEqual((settled.rooms, settled.doors(), places), (1, [], [0] * house.rooms))

    def test_settle_log(self):
        self.assertEqual(settle_log([(3, "a"), (0, "b"), (2, "a"), (3, "a")], [0, 1, 1, 0]), [
            (0, "a"), (0, "b"), (1, "a"), (0, "a"),
        ])
        self.assertEqual(settle_log([], [0]), [])


class SettleFormTest(unittest.TestCase):
    def test_the_form_of_each_settled_log(self):
        dice = random.Random(1124)
        for house, (opened, shut) in known_trials(1125, 30):
            log = a_log(dice, house.rooms, dice.randrange(3 * house.rooms), ["a", "b", "c"][:dice.choice([2, 3])])
            settled, places = settle(house, opened=opened, shut=shut)
            wanted = form_by_definition(settled, settle_log(log, places))
            found = settle_form(house, form_of(house, log), opened=opened, shut=shut)
            self.assertEqual(found, wanted)
            self.assertTrue(is_form(settled, found))

    def test_some_forms(self):
        form = form_of(RING, [(0, "a"), (1, "b"), (3, "c")])
        self.assertEqual(settle_form(RING, form), form)
        self.assertEqual(settle_form(RING, form, opened=RING.doors()), (("c", (0,), ()),))
        self.assertEqual(settle_form(RING, form, shut=tuple(RING.doors())), (
            ("a", (0,), ()), ("b", (1,), ()), (None, (2,), ()), ("c", (3,), ()),
        ))
        self.assertEqual(settle_form(RING, silent_form(RING), opened=[(0, 1)]), ((None, (0, 1, 2), ()),))


class KnownAnswerTest(unittest.TestCase):
    def test_against_all_openings(self):
        dice = random.Random(1126)
        results = []
        for house, (opened, shut) in list(known_trials(1127, 25)) * 2:
            first, second = two_logs(dice, house.rooms)
            openings = openings_with(house, opened, shut)
            telling = [o for o in openings if heard(house, first, o) != heard(house, second, o)]
            found = known_answer(house, first, second, opened=opened, shut=shut)
            if telling:
                self.assertIn(found, telling)
            else:
                self.assertIsNone(found)
            settled, places = settle(house, opened=opened, shut=shut)
            self.assertIs(alike(settled, settle_log(first, places), settle_log(second, places)), not telling)
            results.append((bool(telling), alike(house, first, second)))
        for result in ((True, False), (False, False), (False, True)):
            self.assertGreater(results.count(result), 10)

    def test_no_door_known_and_all_doors_known(self):
        first, second = [(0, "a"), (2, "b")], [(2, "b"), (0, "a")]
        found = known_answer(RING, first, second)
        self.assertNotEqual(hear(RING, first, found), hear(RING, second, found))
        self.assertEqual(known_answer(RING, first, second, opened=RING.doors()), RING.doors())
        self.assertIsNone(known_answer(RING, first, second, shut=RING.doors()))
        self.assertIsNone(known_answer(RING, first, second, shut=((0, 1), (2, 3))))
        found = known_answer(RING, first, second, opened=((0, 1),), shut=((2, 3),))
        self.assertEqual(found, [(0, 1), (1, 2)])
        house = House(1, [])
        self.assertEqual(known_answer(house, [(0, "a")], []), [])
        self.assertIsNone(known_answer(house, [], []))

    def test_unlike_last_words(self):
        self.assertEqual(known_answer(RING, [(0, "a")], [(0, "b")], opened=[(2, 3)]), [(2, 3)])
        # Room 3 is called last in the room that rooms 2 and 3 become.
        first, second = [(2, "a"), (3, "c")], [(2, "b"), (3, "c")]
        self.assertIsNone(known_answer(RING, first, second, opened=[(2, 3)]))
        self.assertEqual(known_answer(RING, first, second, shut=[(2, 3)]), [])

    def test_twelve_rooms(self):
        house = House.full(12)
        first, second = [(0, "a"), (11, "b")], [(11, "b"), (0, "a")]
        opened = [(room, room + 1) for room in range(0, 10, 2)]
        shut = [door for door in house.doors() if door not in opened and door[1] != door[0] + 1]
        found = known_answer(house, first, second, opened=opened, shut=shut)
        self.assertEqual(found, [(room, room + 1) for room in range(11)])
        self.assertIsNone(known_answer(house, first, second, opened=opened, shut=sorted(shut + [(1, 2)])))


class CleanTest(unittest.TestCase):
    def test_lists(self):
        first, second, opened, shut = [(0, "a"), (2, "b")], [(2, "b"), (0, "a")], [(0, 1)], [(2, 3)]
        form = form_of(RING, first)
        for function, arguments in (
            (settle, (RING,)), (settle_form, (RING, form)), (known_answer, (RING, first, second)),
        ):
            before = copy.deepcopy((first, second, opened, shut))
            answer = function(*arguments, opened=opened, shut=shut)
            if function == settle:
                self.assertEqual(answer[1], [0, 0, 1, 2])
            spoil(answer)
            self.assertEqual((first, second, opened, shut), before)
            again = function(*arguments, opened=opened, shut=shut)
            if function == settle:
                self.assertEqual((again[0].doors(), again[1]), ([(0, 1), (0, 2)], [0, 0, 1, 2]))
            else:
                self.assertEqual(again, function(*arguments, opened=tuple(opened), shut=tuple(shut)))
        self.assertEqual(known_answer(RING, first, second, opened=opened, shut=shut), [(0, 1), (1, 2)])
        places = [0, 0, 1, 2]
        found = settle_log(first, places)
        spoil(found)
        self.assertEqual((first, places, settle_log(first, places)), (
            [(0, "a"), (2, "b")], [0, 0, 1, 2], [(0, "a"), (1, "b")],
        ))

    def test_lists_that_change_after_the_call(self):
        opened, shut = [(0, 1)], [(2, 3)]
        settled, places = settle(RING, opened=opened, shut=shut)
        spoil(opened)
        spoil(shut)
        spoil(places)
        self.assertEqual((settled.rooms, settled.doors()), (3, [(0, 1), (0, 2)]))
