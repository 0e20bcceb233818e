"""callsheard/mending.py: [83] and the interface."""

import itertools
import random
import unittest

from callsheard.alike import alike
from callsheard.errors import TooLarge
from callsheard.house import House
from callsheard.mending import mending_answer, mends
from tests.support import check_clean, form_by_definition, paths_of, some_houses, subsets, trials, two_logs, word_in

HOUSE = House.corridor(3)
FIRST = [(1, "drum"), (0, "bell"), (2, "horn")]
SECOND = [(1, "drum"), (2, "horn"), (0, "bell")]


def parting_paths(house, first, second):
    return [path for path in paths_of(house) if word_in(first, path) != word_in(second, path)]


def meets_all(rooms, paths):
    return all(set(rooms) & set(path) for path in paths)


class MendsTest(unittest.TestCase):
    def test_against_calls_at_the_end_and_parting_paths(self):
        dice = random.Random(1301)
        answers = set()
        for house, first, second in trials(1302):
            parting = parting_paths(house, first, second)
            for _ in range(3):
                rooms = dice.sample(range(house.rooms), dice.randrange(house.rooms + 1))
                wanted = meets_all(rooms, parting)
                self.assertIs(mends(house, first, second, rooms), wanted)
                self.assertIs(mends(house, first, second, tuple(rooms)), wanted)
                calls = [(room, dice.choice(["bell", "drum", "new"])) for room in rooms]
                forms = [form_by_definition(house, log + calls) for log in (first, second)]
                self.assertIs(forms[0] == forms[1], wanted)
                answers.add((wanted, alike(house, first, second)))
        self.assertEqual(answers, {(True, True), (True, False), (False, False)})

    def test_some_rooms(self):
        for rooms, wanted in (([], False), ([0], True), ([1], True), ([2], True), ((2, 0), True)):
            self.assertIs(mends(HOUSE, FIRST, SECOND, rooms), wanted)
        for rooms in subsets(range(3)):
            self.assertIs(mends(HOUSE, FIRST, FIRST, rooms), True)
            self.assertIs(mends(HOUSE, [], [(1, "a")], rooms), 1 in rooms)
            self.assertIs(mends(House(3, []), [(2, "b")], [(1, "a")], rooms), 1 in rooms and 2 in rooms)


class MendingAnswerTest(unittest.TestCase):
    def test_against_all_sets_of_rooms(self):
        sizes = set()
        dice = random.Random(1303)
        six = [(house, *two_logs(dice, 6)) for house in some_houses(1304, 6, 12)]
        for house, first, second in itertools.chain(trials(1305), six):
            parting = parting_paths(house, first, second)
            wanted = next(rooms for rooms in subsets(range(house.rooms)) if meets_all(rooms, parting))
            self.check(mending_answer(house, first, second), house, parting, wanted)
            self.assertIs(mends(house, first, second, wanted), True)
            for fewer in itertools.combinations(range(house.rooms), max(0, len(wanted) - 1)):
                self.assertIs(mends(house, first, second, fewer), len(wanted) == 0)
            sizes.add(len(wanted))
        self.assertLessEqual({0, 1, 2, 3}, sizes)

    def check(self, answer, house, parting, wanted):
        rooms, paths = answer
        self.assertEqual((type(rooms), rooms, type(paths)), (tuple, wanted, list))
        self.assertTrue(all(type(path) is tuple and path in parting for path in paths))
        for fewer in subsets(range(house.rooms)):
            if len(fewer) < len(wanted):
                self.assertFalse(meets_all(fewer, paths))

    def test_some_logs(self):
        self.assertEqual(mending_answer(HOUSE, FIRST, SECOND), ((0,), [(0, 1, 2)]))
        self.assertEqual(mending_answer(HOUSE, FIRST, FIRST)[0], ())
        self.assertEqual(mending_answer(HOUSE, [], [])[0], ())
        self.assertEqual(mending_answer(House(1, []), [(0, "a")], [(0, "b")]), ((0,), [(0,)]))
        self.assertEqual(mending_answer(House(1, []), [(0, "a")], [(0, "a"), (0, "a")])[0], ())

    def test_all_rooms(self):
        for house in (House.full(6), House(6, []), House.corridor(6)):
            first, second = [(room, "a") for room in range(6)], [(room, "b") for room in range(6)]
            rooms, paths = mending_answer(house, first, second)
            self.assertEqual(rooms, (0, 1, 2, 3, 4, 5))
            self.assertFalse(any(meets_all(fewer, paths) for fewer in subsets(range(6)) if len(fewer) < 6))

    def test_too_large(self):
        for house in (House(7, []), House.full(7), House.full(12)):
            for first, second in (([], []), ([(0, "a")], [])):
                for function in (
                    lambda: mends(house, first, second, [0]), lambda: mends(house, first, second, []),
                    lambda: mending_answer(house, first, second),
                ):
                    with self.assertRaises(TooLarge) as caught:
                        function()
                    self.assertEqual(caught.exception.size, house.rooms)

    def test_clean(self):
        check_clean(self, mends, HOUSE, list(FIRST), list(SECOND), [2, 0])
        check_clean(self, mending_answer, HOUSE, list(FIRST), list(SECOND))
