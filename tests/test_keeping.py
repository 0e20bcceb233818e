"""callsheard/keeping.py: [48] to [50] and the interface."""

import itertools
import random
import unittest

from callsheard.errors import Impossible
from callsheard.facts import Facts, fitting_answer
from callsheard.hearing import all_openings
from callsheard.house import House
from callsheard.keeping import keep_certificate, may_keep, room_answer
from callsheard.logs import log_of
from callsheard.paths import path_doors
from tests.support import (
    all_fitting_orders, check_clean, heard, paths_of, pieces_of, some_facts, some_houses, spoil, top_of,
)


def keeping_trials(seed, count, most_rooms=4):
    """Houses and facts that some order fits without the heard entries, with all orders that then fit."""
    dice = random.Random(seed)
    houses = {rooms: list(some_houses(seed + rooms, rooms, 12)) for rooms in range(1, most_rooms + 1)}
    for words, pairs, entries in some_facts(seed, count, most_rooms):
        fitting = all_fitting_orders(words, pairs, [])
        if fitting:
            yield dice.choice(houses[len(words)]), Facts(words, pairs, entries), fitting


def kept_calls(house, facts, fitting):
    """For each room, the rooms whose call it keeps for some order and some opening."""
    kept = {room: set() for room in range(house.rooms)}
    for order in fitting:
        log = log_of(facts.words(), order)
        for opening in all_openings(house):
            for area in pieces_of(House(house.rooms, opening), range(house.rooms)):
                top = top_of(log, area)
                for room in area:
                    if top is not None:
                        kept[room].add(top)
    return {room: sorted(kept[room]) for room in kept}


def surely_later(pairs, x):
    later = {x}
    for _ in range(9):
        later |= {b for a, b in pairs if a in later}
    return later - {x}


def certificate_by_definition(house, facts, room, caller):
    later = surely_later(facts.pairs(), caller)
    inside = [other for other in range(house.rooms) if other not in later]
    paths = [path for path in paths_of(house, inside) if path[0] == room]
    leading = [path for path in paths if path[-1] == caller]
    if not leading:
        return ("wall", tuple(sorted({path[-1] for path in paths})))
    path = leading[0]
    plain = Facts(facts.words(), facts.pairs(), [])
    for other in path:
        if other != caller and facts.words()[other] is not None:
            plain = plain.with_pair(other, caller)
    return ("path", path, fitting_answer(plain)[1])


class MayKeepTest(unittest.TestCase):
    def test_against_all_orders_and_openings(self):
        lengths = set()
        for house, facts, fitting in keeping_trials(1071, 90):
            kept = kept_calls(house, facts, fitting)
            for room in range(house.rooms):
                self.assertEqual(may_keep(house, facts, room), kept[room])
                lengths.add(len(kept[room]))
        self.assertEqual(lengths, {0, 1, 2, 3, 4})

    def test_a_chain_of_pairs(self):
        house = House.corridor(4)
        facts = Facts(["a", "b", "c", "d"], [(0, 1), (1, 2)], [])
        # Room 3 cannot keep the call of room 0: rooms 1 and 2 between them are surely later.
        self.assertEqual([may_keep(house, facts, room) for room in range(4)], [[0, 1, 2, 3], [1, 2, 3], [2, 3], [2, 3]])

    def test_heard_entries_do_not_count(self):
        house = House.corridor(2)
        for entries in ([((0, 1), "b")], [((0, 1), None)], [((0,), "z")], [((0, 1), "z"), ((0, 1), "a")]):
            facts = Facts(["a", "b"], [(1, 0)], entries)
            self.assertEqual([may_keep(house, facts, room) for room in (0, 1)], [[0], [0, 1]])
            self.assertEqual(keep_certificate(house, facts, 1, 0), ("path", (1, 0), (1, 0)))
            self.assertEqual(room_answer(house, facts, 0), ("sure", "a"))
            self.assertEqual(room_answer(house, facts, 1), ("open", ((1,), (1, 0)), ((1, 0), (1, 0))))

    def test_silent_rooms(self):
        house = House.corridor(3)
        facts = Facts(["a", None, None], [], [])
        self.assertEqual([may_keep(house, facts, room) for room in range(3)], [[0]] * 3)
        facts = Facts([None] * 3, [], [((0, 1), "a")])
        self.assertEqual([may_keep(house, facts, room) for room in range(3)], [[]] * 3)

    def test_one_and_eight_rooms(self):
        self.assertEqual(may_keep(House(1, []), Facts(["a"], [], []), 0), [0])
        self.assertEqual(may_keep(House(1, []), Facts([None], [], []), 0), [])
        facts = Facts(list("abcdefgh"), [(room, room + 1) for room in range(7)], [])
        for room in range(8):
            self.assertEqual(may_keep(House.full(8), facts, room), list(range(room, 8)))
            self.assertEqual(may_keep(House(8, []), facts, room), [room])


class CertificateTest(unittest.TestCase):
    def test_against_the_definition(self):
        kinds = []
        for house, facts, fitting in keeping_trials(1072, 150):
            for room, caller in itertools.product(range(house.rooms), facts.called()):
                certificate = keep_certificate(house, facts, room, caller)
                self.assertEqual(certificate, certificate_by_definition(house, facts, room, caller))
                self.assertIs(caller in may_keep(house, facts, room), certificate[0] == "path")
                if certificate[0] == "path":
                    _, path, order = certificate
                    self.assertIn(order, fitting)
                    self.assertEqual(top_of(log_of(facts.words(), order), path), caller)
                    kept = heard(house, log_of(facts.words(), order), path_doors(path))
                    self.assertEqual(kept[room], facts.words()[caller])
                else:
                    self.assertNotIn(caller, certificate[1])
                kinds.append(certificate[0] if certificate[-1] else "empty")
        for kind in ("path", "wall", "empty"):
            self.assertGreater(kinds.count(kind), 10)

    def test_walls(self):
        house = House.corridor(5)
        facts = Facts(["a", "b", None, None, "c"], [(0, 1)], [])
        self.assertEqual(keep_certificate(house, facts, 3, 0), ("wall", (2, 3, 4)))
        self.assertEqual(keep_certificate(house, facts, 1, 0), ("wall", ()))
        self.assertEqual(keep_certificate(house, facts, 3, 1), ("path", (3, 2, 1), (0, 1, 4)))
        self.assertEqual(keep_certificate(House(5, []), facts, 3, 4), ("wall", (3,)))

    def test_the_order_has_the_further_pairs(self):
        house = House.corridor(4)
        facts = Facts(["a", "b", None, "d"], [], [])
        self.assertEqual(keep_certificate(house, facts, 3, 0), ("path", (3, 2, 1, 0), (1, 3, 0)))
        self.assertEqual(keep_certificate(house, facts, 0, 3), ("path", (0, 1, 2, 3), (0, 1, 3)))
        self.assertEqual(keep_certificate(house, facts, 0, 0), ("path", (0,), (0, 1, 3)))
        self.assertEqual(keep_certificate(house, facts, 2, 1), ("path", (2, 1), (0, 1, 3)))


class RoomAnswerTest(unittest.TestCase):
    def test_against_all_orders_and_openings(self):
        kinds = set()
        for house, facts, fitting in keeping_trials(1073, 150):
            words = facts.words()
            kept = kept_calls(house, facts, fitting)
            for room in range(house.rooms):
                answer = room_answer(house, facts, room)
                others = [x for x in kept[room] if words[x] != words[room]]
                if not others:
                    self.assertEqual(answer, ("sure", words[room]))
                else:
                    plain = Facts(words, facts.pairs(), [])
                    _, path, order = keep_certificate(house, facts, room, others[0])
                    self.assertEqual(answer, ("open", ((room,), fitting_answer(plain)[1]), (path, order)))
                    self.check_worlds(house, words, room, answer)
                kinds.add((answer[0], words[room] is None))
        self.assertEqual(kinds, set(itertools.product(("sure", "open"), (True, False))))

    def check_worlds(self, house, words, room, answer):
        kept = [heard(house, log_of(words, order), path_doors(path))[room] for path, order in answer[1:]]
        self.assertEqual(kept[0], words[room])
        self.assertNotEqual(kept[1], words[room])

    def test_equal_words(self):
        facts = Facts(["a", "a", "b"], [(2, 1), (1, 0)], [])
        house = House.corridor(3)
        self.assertEqual(room_answer(house, facts, 0), ("sure", "a"))
        self.assertEqual(room_answer(house, facts, 1), ("sure", "a"))
        self.assertEqual(room_answer(house, facts, 2), ("open", ((2,), (2, 1, 0)), ((2, 1, 0), (2, 1, 0))))
        facts = Facts(["b", "a", "b"], [(2, 1), (1, 0)], [])
        self.assertEqual(room_answer(house, facts, 2), ("open", ((2,), (2, 1, 0)), ((2, 1), (2, 1, 0))))

    def test_one_room_and_no_called_room(self):
        self.assertEqual(room_answer(House(1, []), Facts([None], [], []), 0), ("sure", None))
        self.assertEqual(room_answer(House(1, []), Facts(["a"], [], []), 0), ("sure", "a"))
        self.assertEqual(room_answer(House.full(8), Facts([None] * 8, [], []), 5), ("sure", None))
        self.assertEqual(
            room_answer(House.corridor(2), Facts(["a", None], [], []), 1), ("open", ((1,), (0,)), ((1, 0), (0,))),
        )


class ErrorsTest(unittest.TestCase):
    def test_no_order_fits_the_words_and_pairs(self):
        for pairs in ([(0, 1), (1, 0)], [(0, 1), (1, 2), (2, 0)]):
            for heard_entries in ([], [((0,), "a")]):
                facts = Facts(["a", "b", "a", None], pairs, heard_entries)
                for house in (House(4, []), House.full(4)):
                    for room in range(4):
                        with self.assertRaises(Impossible):
                            may_keep(house, facts, room)
                        with self.assertRaises(Impossible):
                            room_answer(house, facts, room)
                        for caller in range(3):
                            with self.assertRaises(Impossible):
                                keep_certificate(house, facts, room, caller)

    def test_clean(self):
        facts = Facts(["a", "b", None], [(1, 0)], [((0, 1), "z")])
        house = House.corridor(3)
        check_clean(self, may_keep, house, facts, 2)
        check_clean(self, keep_certificate, house, facts, 2, 0)
        check_clean(self, keep_certificate, house, facts, 0, 1)
        check_clean(self, room_answer, house, facts, 2)
        spoil(may_keep(house, facts, 2))
        self.assertEqual((may_keep(house, facts, 2), facts.pairs()), ([0, 1], [(1, 0)]))
        self.assertEqual(facts.heard(), [((0, 1), "z")])
