"""callsheard/openings.py: [55] to [58] and the interface."""

import copy
import fractions
import random
import unittest

from callsheard.errors import Impossible, OutOfRange, TooLarge
from callsheard.hearing import all_openings
from callsheard.house import House
from callsheard.looks import door_states
from callsheard.openings import best_question, chance_open, count_openings, kth_opening, room_now, word_counts
from tests.support import a_log, fitting_openings_of, heard, some_looks, spoil

LOG = [(0, "bell"), (2, "drum"), (1, "horn")]
HOUSE = House.corridor(3)
TEN_DOORS = House(6, House.full(5).doors())
ELEVEN_DOORS = House(6, House.full(5).doors() + [(0, 5)])


def check_range(test, house, log, looks, opened, shut, count):
    for k in (-1, -count, -count - 1, count, count + 1, 10 ** 9):
        if not 0 <= k < count:
            with test.assertRaises(OutOfRange) as caught:
                kth_opening(house, log, looks, k, opened=opened, shut=shut)
            test.assertEqual(caught.exception.count, count)


def best_by_definition(house, fitting):
    worst = []
    for door in house.doors():
        holding = len([opening for opening in fitting if door in opening])
        if 0 < holding < len(fitting):
            worst.append((max(holding, len(fitting) - holding), door))
    return sorted(worst)[0][1] if worst else None


def words_after(house, log, fitting, room):
    kept = [heard(house, log, opening)[room] for opening in fitting]
    words = sorted(set(kept), key=lambda word: (word is not None, word or ""))
    return [(word, kept.count(word)) for word in words]


class CountedTest(unittest.TestCase):
    def test_example_of_the_document(self):
        self.assertEqual(count_openings(HOUSE, [], [], opened=[(0, 1)]), 2)

    def test_against_all_openings(self):
        counts = set()
        for house, log, looks, opened, shut in some_looks(1091, 400):
            fitting = fitting_openings_of(house, log, looks, opened, shut)
            known = {"opened": opened, "shut": shut}
            self.assertEqual(count_openings(house, log, looks, **known), len(fitting))
            for k in sorted({0, len(fitting) // 2, len(fitting) - 1} if fitting else ()):
                self.assertEqual(kth_opening(house, log, looks, k, **known), fitting[k])
            check_range(self, house, log, looks, opened, shut, len(fitting))
            counts.add(len(fitting))
        self.assertLessEqual({0, 1, 2, 3, 4}, counts)

    def test_each_number(self):
        for house, log, looks, opened, shut in some_looks(1092, 40):
            fitting = fitting_openings_of(house, log, looks, opened, shut)
            known = {"opened": tuple(opened), "shut": tuple(shut)}
            found = [kth_opening(house, log, looks, k, **known) for k in range(len(fitting))]
            self.assertEqual(found, fitting)

    def test_ten_doors(self):
        for house in (House.full(5), TEN_DOORS):
            self.assertEqual(count_openings(house, LOG, []), 1024)
            openings = all_openings(house)
            for k in (0, 1, 511, 512, 1023):
                self.assertEqual(kth_opening(house, LOG, [], k), openings[k])
            check_range(self, house, LOG, [], [], [], 1024)
            looks = [(1, ["a"] * 5 + [None] * (house.rooms - 5))]
            fitting = fitting_openings_of(house, [(2, "a")], looks, [(0, 4)], [(1, 2)])
            known = {"opened": [(0, 4)], "shut": [(1, 2)]}
            self.assertEqual(count_openings(house, [(2, "a")], looks, **known), len(fitting))
            self.assertEqual(kth_opening(house, [(2, "a")], looks, 7, **known), fitting[7])

    def test_no_doors(self):
        for house in (House(1, []), House(6, [])):
            self.assertEqual((count_openings(house, [], []), kth_opening(house, [], [], 0)), (1, []))
            self.assertEqual(count_openings(house, [], [(0, ["a"] + [None] * (house.rooms - 1))]), 0)
            check_range(self, house, [], [], [], [], 1)

    def test_no_opening_fits(self):
        looks = [(3, ["bell", "drum", "drum"])]
        self.assertEqual(count_openings(HOUSE, LOG, looks), 0)
        check_range(self, HOUSE, LOG, looks, [], [], 0)
        with self.assertRaises(OutOfRange) as caught:
            kth_opening(HOUSE, LOG, looks, 0)
        self.assertEqual(caught.exception.count, 0)

    def test_sixty_calls_and_eight_looks(self):
        dice = random.Random(1093)
        house = House.ring(6)
        for _ in range(8):
            log = a_log(dice, 6, 60)
            truth = [door for door in house.doors() if dice.random() < 0.5]
            looks = [(count, heard(house, log[:count], truth)) for count in (60, 0, 2, 5, 2, 60, 30, 1)]
            fitting = fitting_openings_of(house, log, looks, [], [])
            self.assertIn(truth, fitting)
            self.assertEqual(count_openings(house, log, looks), len(fitting))
            self.assertEqual([kth_opening(house, log, looks, k) for k in range(len(fitting))], fitting)


class ChancesTest(unittest.TestCase):
    def test_against_all_openings(self):
        chances = set()
        for house, log, looks, opened, shut in some_looks(1094, 250):
            fitting = fitting_openings_of(house, log, looks, opened, shut)
            for door in house.doors() if fitting else []:
                holding = len([opening for opening in fitting if door in opening])
                wanted = fractions.Fraction(holding, len(fitting))
                chance = chance_open(house, log, looks, door, opened=opened, shut=shut)
                self.assertEqual(chance, (wanted.numerator, wanted.denominator))
                self.assertEqual((type(chance), type(chance[0]), type(chance[1])), (tuple, int, int))
                chances.add(chance)
        self.assertLessEqual({(0, 1), (1, 1), (1, 2)}, chances)
        self.assertGreater(len(chances), 4)

    def test_some_chances(self):
        self.assertEqual(chance_open(HOUSE, [], [], (0, 1)), (1, 2))
        self.assertEqual(chance_open(HOUSE, [], [], (0, 1), opened=[(0, 1)]), (1, 1))
        self.assertEqual(chance_open(HOUSE, [], [], (0, 1), shut=[(0, 1)]), (0, 1))
        # At least two of the three doors of the ring are open: 3 of the 4 openings hold a given door.
        looks = [(1, ["a", "a", "a"])]
        self.assertEqual(chance_open(House.ring(3), [(0, "a")], looks, (1, 2)), (3, 4))

    def test_best_question_against_all_openings(self):
        questions = set()
        for house, log, looks, opened, shut in some_looks(1095, 400):
            fitting = fitting_openings_of(house, log, looks, opened, shut)
            if fitting:
                found = best_question(house, log, looks, opened=opened, shut=shut)
                self.assertEqual(found, best_by_definition(house, fitting))
                states = door_states(house, log, looks, opened=opened, shut=shut)
                self.assertIs(found is None, "free" not in states)
                questions.add(found)
        self.assertGreater(len(questions), 6)

    def test_some_questions(self):
        self.assertEqual(best_question(HOUSE, [], []), (0, 1))
        self.assertEqual(best_question(HOUSE, [], [], opened=[(0, 1)]), (1, 2))
        self.assertIsNone(best_question(HOUSE, [], [], opened=[(0, 1)], shut=[(1, 2)]))
        self.assertIsNone(best_question(House(1, []), [], []))
        # Each door of the ring is in 6 of 8 openings, the door (3, 4) in half of them.
        house = House(5, [(0, 1), (0, 2), (1, 2), (3, 4)])
        looks = [(1, ["a", "a", "a", None, None])]
        self.assertEqual(count_openings(house, [(0, "a")], looks), 8)
        self.assertEqual(best_question(house, [(0, "a")], looks), (3, 4))


class RoomsTest(unittest.TestCase):
    def test_against_all_openings(self):
        sizes, kinds = set(), set()
        for house, log, looks, opened, shut in some_looks(1096, 200):
            fitting = fitting_openings_of(house, log, looks, opened, shut)
            for room in range(house.rooms) if fitting else []:
                wanted = words_after(house, log, fitting, room)
                found = word_counts(house, log, looks, room, opened=opened, shut=shut)
                self.assertEqual(found, wanted)
                self.assertEqual(sum(number for _, number in found), len(fitting))
                sizes.add(len(found))
                answer = room_now(house, log, looks, room, opened=opened, shut=shut)
                kinds.add(answer[0])
                if len(wanted) == 1:
                    self.assertEqual(answer, ("sure", wanted[0][0]))
                else:
                    self.check_open(house, log, room, answer, fitting)
        self.assertEqual((sizes, kinds), ({1, 2, 3, 4}, {"sure", "open"}))

    def check_open(self, house, log, room, answer, fitting):
        kind, first, second = answer
        self.assertEqual(kind, "open")
        self.assertIn(first, fitting)
        self.assertIn(second, fitting)
        self.assertNotEqual(heard(house, log, first)[room], heard(house, log, second)[room])

    def test_some_rooms(self):
        self.assertEqual(word_counts(HOUSE, LOG, [], 0), [("bell", 2), ("horn", 2)])
        self.assertEqual(word_counts(HOUSE, LOG[:1], [], 2), [(None, 3), ("bell", 1)])
        self.assertEqual(word_counts(HOUSE, LOG[:1], [], 2, opened=[(0, 1)]), [(None, 1), ("bell", 1)])
        self.assertEqual(room_now(HOUSE, LOG, [], 1), ("sure", "horn"))
        self.assertEqual(room_now(HOUSE, [], [], 1), ("sure", None))
        self.assertEqual(word_counts(House(1, []), [], [], 0), [(None, 1)])

    def test_words_count_after_the_whole_log(self):
        looks = [(1, ["bell", None, None])]
        self.assertEqual(word_counts(HOUSE, LOG, looks, 2), [("drum", 1), ("horn", 1)])
        self.assertEqual(word_counts(HOUSE, LOG, looks, 0), [("bell", 2)])


class ErrorsTest(unittest.TestCase):
    def functions(self, house, log, looks, opened=()):
        room_functions = [
            lambda: word_counts(house, log, looks, 0, opened=opened), lambda: room_now(house, log, looks, 0, opened=opened),
        ]
        return room_functions + [
            lambda: chance_open(house, log, looks, (0, 1), opened=opened),
            lambda: best_question(house, log, looks, opened=opened),
        ]

    def test_too_large(self):
        for house, size in (
            (House(7, []), 7), (House.corridor(7), 7), (House.full(7), 7), (House(12, []), 12), (House.full(12), 12),
            (House(7, House.full(5).doors() + [(0, 6)]), 7), (ELEVEN_DOORS, 11), (House.full(6), 15),
        ):
            silent, wrong = [None] * house.rooms, ["a"] * house.rooms
            for looks in ([], [(0, silent)], [(0, wrong)]):
                numbered = [lambda k=k: kth_opening(house, [], looks, k) for k in (0, -1, 10 ** 9)]
                counted = [lambda: count_openings(house, [], looks)]
                for function in self.functions(house, [], looks) + counted + numbered:
                    with self.assertRaises(TooLarge) as caught:
                        function()
                    self.assertEqual(caught.exception.size, size)

    def test_impossible(self):
        for house, log, looks, opened in (
            (HOUSE, LOG, [(3, ["bell", "drum", "drum"])], ()),
            (HOUSE, LOG, [(3, ["bell", "horn", "horn"])], [(0, 1)]),
            (HOUSE, LOG, [(0, ["a"] * 3)], ()),
        ):
            self.assertEqual(count_openings(house, log, looks, opened=opened), 0)
            for function in self.functions(house, log, looks, opened):
                with self.assertRaises(Impossible):
                    function()

    def test_clean(self):
        log, looks, opened, shut = list(LOG), [(0, [None] * 4)], [(2, 3)], [(0, 1)]
        house = House(4, [(0, 1), (0, 2), (1, 2), (2, 3)])
        for function, arguments in (
            (count_openings, ()), (kth_opening, (1,)), (chance_open, ((0, 2),)), (best_question, ()),
            (word_counts, (0,)), (room_now, (0,)), (room_now, (1,)),
        ):
            before = copy.deepcopy((log, looks, opened, shut))
            answer = function(house, log, looks, *arguments, opened=opened, shut=shut)
            kept = copy.deepcopy(answer)
            self.assertEqual((log, looks, opened, shut), before)
            spoil(answer)
            self.assertEqual((log, looks, opened, shut), before)
            self.assertEqual(function(house, log, looks, *arguments, opened=opened, shut=shut), kept)
