"""callsheard/alike.py: [12] and [13], and [11] and [20] with it."""

import itertools
import random
import unittest

from callsheard.alike import alike, is_parting_path, parting_path
from callsheard.hearing import all_openings, hear
from callsheard.house import House
from callsheard.paths import path_doors
from tests.support import a_log, check_clean, heard, paths_of, trials, word_in

FIRST = [(1, "drum"), (0, "bell"), (2, "horn")]
SECOND = [(1, "drum"), (2, "horn"), (0, "bell")]


class AlikeTest(unittest.TestCase):
    def test_examples_of_the_document(self):
        house = House.corridor(3)
        log = [(0, "bell"), (2, "horn"), (1, "drum")]
        other = [(2, "horn"), (0, "bell"), (1, "drum")]
        self.assertIs(alike(house, log, other), True)
        self.assertIsNone(parting_path(house, log, other))
        self.assertIs(alike(house, FIRST, SECOND), False)
        self.assertEqual(parting_path(house, FIRST, SECOND), (0, 1, 2))
        self.assertEqual(hear(house, FIRST, house.doors()), ["horn"] * 3)
        self.assertEqual(hear(house, SECOND, house.doors()), ["bell"] * 3)

    def test_alike_is_that_all_openings_sound_alike(self):
        results = set()
        for house, first, second in trials(21):
            if house.door_count <= 6:
                wanted = all(heard(house, first, o) == heard(house, second, o) for o in all_openings(house))
                self.assertIs(alike(house, first, second), wanted)
                self.assertIs(alike(house, second, first), wanted)
                results.add(wanted)
        self.assertEqual(results, {True, False})

    def test_the_first_parting_path(self):
        lengths = set()
        for house, first, second in trials(22):
            parting = [path for path in paths_of(house) if word_in(first, path) != word_in(second, path)]
            wanted = parting[0] if parting else None
            self.assertEqual(parting_path(house, first, second), wanted)
            lengths.add(len(wanted or ()))
        self.assertLessEqual({0, 1, 2, 3}, lengths)

    def test_what_is_said_of_the_first_parting_path(self):
        for house, first, second in trials(23):
            path = parting_path(house, first, second)
            if path is not None and house.door_count <= 6:
                opening = path_doors(path)
                kept, others = hear(house, first, opening), hear(house, second, opening)
                self.assertEqual(len({kept[room] for room in path}), 1)
                self.assertEqual(len({others[room] for room in path}), 1)
                self.assertNotEqual(kept[path[0]], others[path[0]])
                for fewer in all_openings(house):
                    if len(fewer) < len(opening):
                        self.assertEqual(hear(house, first, fewer), hear(house, second, fewer))

    def test_one_room(self):
        house = House(1, [])
        self.assertIs(alike(house, [], []), True)
        self.assertIs(alike(house, [(0, "a"), (0, "b")], [(0, "b")]), True)
        self.assertEqual(parting_path(house, [(0, "b"), (0, "a")], [(0, "b")]), (0,))
        self.assertEqual(parting_path(house, [], [(0, "b")]), (0,))
        self.assertEqual(parting_path(house, [(0, "b")], []), (0,))

    def test_logs_without_calls(self):
        house = House.full(12)
        self.assertIs(alike(house, [], []), True)
        self.assertEqual(parting_path(house, [], [(7, "a"), (4, "a")]), (4,))
        self.assertEqual(parting_path(house, [(7, "a"), (4, "a")], []), (4,))

    def test_equal_words_in_several_rooms(self):
        house = House.corridor(3)
        self.assertIs(alike(house, [(0, "a"), (1, "a"), (2, "a")], [(2, "a"), (1, "a"), (0, "a")]), True)
        self.assertEqual(parting_path(house, [(0, "a"), (1, "b"), (2, "a")], [(1, "b"), (2, "a"), (0, "a")]), (0, 1))

    def test_a_silent_room_between(self):
        house = House.corridor(3)
        self.assertEqual(parting_path(house, [(0, "a"), (2, "b")], [(2, "b"), (0, "a")]), (0, 1, 2))
        self.assertIs(alike(House(3, [(0, 1)]), [(0, "a"), (2, "b")], [(2, "b"), (0, "a")]), True)

    def test_twelve_rooms(self):
        ends, turned = [(0, "a"), (11, "b")], [(11, "b"), (0, "a")]
        self.assertEqual(parting_path(House.corridor(12), ends, turned), tuple(range(12)))
        self.assertEqual(parting_path(House.full(12), ends, turned), (0, 11))
        across, back = [(9, "a"), (3, "b")], [(3, "b"), (9, "a")]
        self.assertEqual(parting_path(House.ring(12), across, back), (3, 2, 1, 0, 11, 10, 9))
        self.assertEqual(parting_path(House.star(12), across, back), (3, 0, 9))

    def test_the_full_house_of_twelve_rooms(self):
        house = House.full(12)
        words = ["a", "b", "c", "d", "e", "f", "g", "h", "i", "j", "k", "l"]
        log = [(room, words[room]) for room in range(12)]
        self.assertEqual(parting_path(house, log, log[::-1]), (0, 1))
        self.assertEqual(parting_path(house, log, log[:8] + [log[9], log[8]] + log[10:]), (8, 9))
        same = [(room, "a") for room in range(12)]
        self.assertIs(alike(house, same, same[::-1]), True)
        self.assertIs(alike(house, same[:6], same[5::-1]), True)

    def test_a_nearly_full_house_of_twelve_rooms(self):
        # All is silent but for two rooms that no door joins.
        house = House(12, [door for door in House.full(12).doors() if door not in ((4, 9), (0, 4), (1, 9))])
        self.assertEqual(parting_path(house, [(9, "a"), (4, "b")], [(4, "b"), (9, "a")]), (4, 2, 9))
        first = [(9, "a"), (4, "b")] + [(room, "c") for room in range(12) if room not in (4, 9)]
        second = [(4, "b"), (9, "a")] + [(room, "c") for room in range(12) if room not in (4, 9)]
        self.assertIs(alike(house, first, second), True)

    def test_sixty_calls(self):
        dice = random.Random(24)
        house = House.ring(12)
        for _ in range(20):
            log = a_log(dice, 12, 60)
            lasts = [call for at, call in enumerate(log) if call[0] not in [later[0] for later in log[at + 1:]]]
            self.assertIs(alike(house, log, lasts), True)
            unlike = log + [(log[0][0], "x")]
            path = parting_path(house, log, unlike)
            self.assertEqual(path, (log[0][0],))


class IsPartingPathTest(unittest.TestCase):
    def test_against_the_definition(self):
        for house, first, second in itertools.islice(trials(25), 0, None, 3):
            for path in paths_of(house):
                self.assertIs(
                    is_parting_path(house, first, second, path), word_in(first, path) != word_in(second, path)
                )

    def test_tuples_that_are_no_paths(self):
        house = House.corridor(4)
        first, second = [(1, "a"), (2, "b")], [(2, "b"), (1, "a")]
        self.assertIs(is_parting_path(house, first, second, (1, 2)), True)
        self.assertIs(is_parting_path(house, first, second, (3, 2, 1, 0)), True)
        for path in ((), (1, 2, 1), (1, 1, 2), (1, 2, 2), (0, 2, 1), (1, 3, 2), (0, 1, 3, 2), (1, 2, 0), (1, 2, 3, 2)):
            self.assertIs(is_parting_path(house, first, second, path), False)

    def test_none_and_a_word(self):
        house = House.corridor(3)
        self.assertIs(is_parting_path(house, [], [(0, "a")], (0, 1)), True)
        self.assertIs(is_parting_path(house, [(0, "a")], [], (2, 1, 0)), True)
        self.assertIs(is_parting_path(house, [(0, "a")], [], (2, 1)), False)
        self.assertIs(is_parting_path(house, [], [], (0,)), False)

    def test_any_number_of_rooms(self):
        house = House.full(12)
        first, second = [(0, "a"), (11, "b")], [(11, "b"), (0, "a")]
        self.assertIs(is_parting_path(house, first, second, tuple(range(12))), True)
        self.assertIs(is_parting_path(house, first, second, tuple(range(11))), False)
        self.assertIs(is_parting_path(house, first, second, tuple(range(12)) * 5), False)


class CleanTest(unittest.TestCase):
    def test_lists(self):
        house = House.corridor(3)
        check_clean(self, parting_path, house, list(FIRST), list(SECOND))
        check_clean(self, alike, house, list(FIRST), list(SECOND))
        check_clean(self, is_parting_path, house, list(FIRST), list(SECOND), (0, 1, 2))
