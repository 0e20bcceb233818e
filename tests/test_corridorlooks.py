"""callsheard/corridorlooks.py: [59] to [61] and the interface."""

import random
import unittest

from callsheard.corridorlooks import corridor_states, corridor_words, count_cuts, cuts_answer
from callsheard.errors import Impossible
from callsheard.hearing import hear
from callsheard.house import House
from callsheard.looks import door_states, looks_answer
from callsheard.openings import count_openings, word_counts
from tests.support import WORDS, a_log, check_clean, subsets, word_in
from tests.test_looks import state_of

LOG = [(0, "bell"), (2, "horn"), (1, "drum")]


def corridor_trials(seed, count, most_rooms=6, unseen=0.4):
    """Corridors with a log and looks each, most of them true of some opening."""
    dice = random.Random(seed)
    for _ in range(count):
        rooms = dice.randrange(1, most_rooms + 1)
        truth = [(p - 1, p) for p in range(1, rooms) if dice.random() < 0.5]
        log = a_log(dice, rooms, dice.randrange(3 * rooms), WORDS[:dice.choice([2, 3])])
        looks = []
        for _ in range(dice.choice([0, 1, 1, 2, 3, 8])):
            looked = dice.randrange(len(log) + 1)
            seen = hear(House.corridor(rooms), log[:looked], truth)
            looks.append((looked, [word if dice.random() >= unseen else "?" for word in seen]))
        if looks and dice.random() < 0.25:
            dice.choice(looks)[1][dice.randrange(rooms)] = dice.choice(WORDS + [None])
        yield rooms, log, looks


def fitting_cuts(rooms, log, looks):
    """The cuts of all openings that fit, by hearing."""
    house = House.corridor(rooms)
    found = []
    for cuts in subsets(range(1, rooms)):
        opening = [(p - 1, p) for p in range(1, rooms) if p not in cuts]
        kept = [(hear(house, log[:count], opening), seen) for count, seen in looks]
        if all(word in ("?", heard) for words, seen in kept for heard, word in zip(words, seen)):
            found.append(cuts)
    return found


def openings_of(rooms, fitting):
    return [[(p - 1, p) for p in range(1, rooms) if p not in cuts] for cuts in fitting]


def reachable_places(rooms, log, looks):
    def sound(i, j):
        members = range(i, j)
        words = [(word_in(log[:count], members), seen) for count, seen in looks]
        return all(seen[room] in ("?", word) for word, seen in words for room in members)

    places = [0]
    for j in range(1, rooms + 1):
        if any(sound(i, j) for i in places):
            places.append(j)
    return tuple(places)


class CutsAnswerTest(unittest.TestCase):
    def test_against_all_openings(self):
        kinds, sizes = [], set()
        for rooms, log, looks in corridor_trials(1101, 500):
            fitting = fitting_cuts(rooms, log, looks)
            answer = cuts_answer(rooms, log, looks)
            if fitting:
                self.assertEqual(answer, ("cuts", min(fitting, key=lambda cuts: (len(cuts), cuts))))
                sizes.add(len(answer[1]))
            else:
                self.assertEqual(answer, ("wall", reachable_places(rooms, log, looks)))
            kinds.append(answer[0])
        self.assertGreater(kinds.count("wall"), 30)
        self.assertGreater(kinds.count("cuts"), 100)
        self.assertLessEqual({0, 1, 2, 3}, sizes)

    def test_the_fewest_cuts_and_the_least_tuple(self):
        log = [(0, "a"), (3, "b")]
        self.assertEqual(cuts_answer(4, log, [(2, ["a", "?", "?", "b"])]), ("cuts", (1,)))
        self.assertEqual(cuts_answer(4, log, [(2, ["?", "a", "?", "b"])]), ("cuts", (2,)))
        self.assertEqual(cuts_answer(4, log, [(2, ["?", "?", "?", "?"])]), ("cuts", ()))
        self.assertEqual(cuts_answer(4, log, [(2, ["a", None, "?", "b"])]), ("cuts", (1, 2)))
        self.assertEqual(cuts_answer(5, [(0, "a"), (4, "b")], [(2, ["a", "?", None, "?", "b"])]), ("cuts", (1, 3)))

    def test_the_best_cuts_do_not_always_begin_with_the_longest_stretch_at_the_end(self):
        for rooms, log, looks, cuts in (
            (5, [(2, "a"), (0, "a"), (1, "b"), (3, "a"), (1, "c"), (1, "a")],
             [(4, ["?", "?", "a", "?", "?"]), (2, ["a", "a", "?", "?", None])], (4,)),
            (6, [(5, "c"), (1, "a"), (4, "a")],
             [(0, ["?", None, None, "?", "?", None]), (3, ["?", "?", "a", "?", "a", "?"]),
              (2, ["a", "a", "?", None, "?", "?"])], (2, 5)),
        ):
            self.assertEqual(min(fitting_cuts(rooms, log, looks), key=lambda found: (len(found), found)), cuts)
            self.assertEqual(cuts_answer(rooms, log, looks), ("cuts", cuts))

    def test_reachable_places_ascend(self):
        # Place 2 is reachable only by place 1, places 3 and 4 are so at once.
        log = [(1, "b"), (0, "c"), (2, "b")]
        looks = [(3, ["?", "b", "b", "?", "b"]), (3, ["?", "?", "b", "?", None])]
        self.assertEqual(reachable_places(5, log, looks), (0, 1, 2, 3, 4))
        self.assertEqual(cuts_answer(5, log, looks), ("wall", (0, 1, 2, 3, 4)))

    def test_walls(self):
        self.assertEqual(cuts_answer(3, [], [(0, ["?", "a", "?"])]), ("wall", (0, 1)))
        self.assertEqual(cuts_answer(3, [], [(0, ["a", "?", "?"])]), ("wall", (0,)))
        self.assertEqual(cuts_answer(3, LOG, [(3, ["bell", "drum", "bell"])]), ("wall", (0, 1, 2)))
        # Place 3 is not reachable, but place 4 is.
        log = [(3, "a")]
        looks = [(1, ["?", "?", "a", "a", "a", None])]
        self.assertEqual(cuts_answer(6, log, looks), ("cuts", (5,)))
        looks = [(1, ["?", "?", "a", "a", "?", "b"])]
        self.assertEqual(cuts_answer(6, log, looks), ("wall", (0, 1, 2, 4, 5)))

    def test_one_room(self):
        self.assertEqual(cuts_answer(1, [], []), ("cuts", ()))
        self.assertEqual(cuts_answer(1, [], [(0, [None]), (0, ["?"])]), ("cuts", ()))
        self.assertEqual(cuts_answer(1, [(0, "a")], [(0, ["a"])]), ("wall", (0,)))
        self.assertEqual((count_cuts(1, [], []), corridor_states(1, [], [])), (1, []))
        self.assertEqual(corridor_words(1, [(0, "a")], [(1, ["?"])], 0), ["a"])


class CountedTest(unittest.TestCase):
    def test_against_all_openings(self):
        states, sizes = [], set()
        for rooms, log, looks in corridor_trials(1102, 400):
            fitting = fitting_cuts(rooms, log, looks)
            self.assertEqual(count_cuts(rooms, log, looks), len(fitting))
            if not fitting:
                self.check_impossible(rooms, log, looks)
                continue
            openings = openings_of(rooms, fitting)
            wanted = [state_of((p - 1, p), openings) for p in range(1, rooms)]
            self.assertEqual(corridor_states(rooms, log, looks), wanted)
            states += wanted
            for room in range(rooms):
                kept = {hear(House.corridor(rooms), log, opening)[room] for opening in openings}
                words = sorted(kept, key=lambda word: (word is not None, word or ""))
                self.assertEqual(corridor_words(rooms, log, looks, room), words)
                sizes.add(len(words))
        for state in ("open", "shut", "free"):
            self.assertGreater(states.count(state), 50)
        self.assertLessEqual({1, 2, 3}, sizes)

    def check_impossible(self, rooms, log, looks):
        with self.assertRaises(Impossible):
            corridor_states(rooms, log, looks)
        for room in range(rooms):
            with self.assertRaises(Impossible):
                corridor_words(rooms, log, looks, room)

    def test_no_opening_fits(self):
        for rooms, log, looks in ((1, [], [(0, ["a"])]), (3, LOG, [(3, ["bell", "drum", "bell"])])):
            self.assertEqual(count_cuts(rooms, log, looks), 0)
            self.check_impossible(rooms, log, looks)

    def test_looks_that_leave_all_rooms_out(self):
        for rooms in (1, 2, 12):
            looks = [(0, ["?"] * rooms), (1, ["?"] * rooms)]
            self.assertEqual(count_cuts(rooms, [(0, "a")], looks), 2 ** (rooms - 1))
            self.assertEqual(corridor_states(rooms, [(0, "a")], looks), ["free"] * (rooms - 1))
            wanted = [["a"]] + [[None, "a"]] * (rooms - 1)
            self.assertEqual([corridor_words(rooms, [(0, "a")], looks, room) for room in range(rooms)], wanted)
            self.assertEqual(cuts_answer(rooms, [(0, "a")], looks), ("cuts", ()))

    def test_twelve_rooms(self):
        dice = random.Random(1103)
        for _ in range(5):
            truth = [(p - 1, p) for p in range(1, 12) if dice.random() < 0.5]
            log = a_log(dice, 12, 60)
            looks = []
            for count in (60, 0, 9, 33, 60, 1, 5, 17):
                seen = hear(House.corridor(12), log[:count], truth)
                looks.append((count, [word if dice.random() < 0.2 else "?" for word in seen]))
            fitting = fitting_cuts(12, log, looks)
            openings = openings_of(12, fitting)
            self.assertEqual(count_cuts(12, log, looks), len(fitting))
            self.assertEqual(cuts_answer(12, log, looks)[1], min(fitting, key=lambda cuts: (len(cuts), cuts)))
            wanted = [state_of((p - 1, p), openings) for p in range(1, 12)]
            self.assertEqual(corridor_states(12, log, looks), wanted)


class FullLooksTest(unittest.TestCase):
    def test_against_the_functions_of_looks(self):
        kinds = set()
        for rooms, log, looks in corridor_trials(1104, 250, unseen=0):
            house = House.corridor(rooms)
            answer = looks_answer(house, log, looks)
            self.assertIs(answer[0] == "opening", cuts_answer(rooms, log, looks)[0] == "cuts")
            self.assertEqual(count_cuts(rooms, log, looks), count_openings(house, log, looks))
            kinds.add(answer[0])
            if answer[0] == "opening":
                cuts = [p for p in range(1, rooms) if (p - 1, p) not in answer[1]]
                self.assertEqual(cuts_answer(rooms, log, looks)[1], tuple(cuts))
                self.assertEqual(corridor_states(rooms, log, looks), door_states(house, log, looks))
                for room in range(rooms):
                    words = [word for word, _ in word_counts(house, log, looks, room)]
                    self.assertEqual(corridor_words(rooms, log, looks, room), words)
        self.assertEqual(kinds, {"opening", "clash"})

    def test_clean(self):
        looks = [(3, ["?", "drum", "drum"]), (0, [None, "?", None])]
        for function in (cuts_answer, count_cuts, corridor_states):
            check_clean(self, function, 3, list(LOG), [(count, list(seen)) for count, seen in looks])
        check_clean(self, corridor_words, 3, list(LOG), [(count, list(seen)) for count, seen in looks], 0)
        self.assertEqual(corridor_words(3, LOG, looks, 0), ["bell", "drum"])
