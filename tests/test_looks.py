"""callsheard/looks.py: [51] to [54] and the interface."""

import copy
import itertools
import random
import unittest

from callsheard.errors import Impossible
from callsheard.hearing import hear
from callsheard.house import House
from callsheard.looks import door_certificate, door_states, joint_pieces, looks_answer, opening_fits
from tests.support import a_log, fitting_openings_of, pieces_of, some_houses, some_looks, spoil, subsets, top_of, word_in

LOG = [(0, "bell"), (2, "drum"), (1, "horn")]
FITS = [(3, ["bell", "horn", "horn"])]
CLASH = [(3, ["bell", "drum", "drum"])]
HOUSE = House.corridor(3)


def look_alike(looks, door):
    return all(seen[door[0]] == seen[door[1]] for _, seen in looks)


def inner_of(house, looks, shut):
    return [door for door in house.doors() if door not in shut and look_alike(looks, door)]


def first_unlike(looks, door):
    return [index for index, (_, seen) in enumerate(looks) if seen[door[0]] != seen[door[1]]][0]


def unsound(log, looks, rooms):
    return [index for index, (count, seen) in enumerate(looks) if word_in(log[:count], rooms) != seen[rooms[0]]]


def answer_by_definition(house, log, looks, opened, shut):
    for door in opened:
        if not look_alike(looks, door):
            return ("apart", door, first_unlike(looks, door))
    inner = inner_of(house, looks, shut)
    for piece in pieces_of(House(house.rooms, inner), range(house.rooms)):
        if unsound(log, looks, piece):
            look = unsound(log, looks, piece)[0]
            return ("clash", piece, look, top_of(log[:looks[look][0]], piece))
    return ("opening", inner)


def state_of(door, fitting):
    holding = [door in opening for opening in fitting]
    return "open" if all(holding) else "free" if any(holding) else "shut"


def certificate_by_definition(house, log, looks, door, opened, shut, state):
    if door in opened or door in shut:
        return ("known",)
    if not look_alike(looks, door):
        return ("unlike", first_unlike(looks, door))
    inner = inner_of(house, looks, shut)
    left = [other for other in inner if other != door]
    if state == "free":
        return ("free", left, inner)
    halves = pieces_of(House(house.rooms, left), range(house.rooms))
    for room in door:
        half = [half for half in halves if room in half][0]
        if unsound(log, looks, half):
            return ("needed", half, unsound(log, looks, half)[0])


class JointPiecesTest(unittest.TestCase):
    def test_against_the_definition(self):
        for house, log, looks, opened, shut in some_looks(1081, 200):
            wanted = pieces_of(House(house.rooms, inner_of(house, looks, shut)), range(house.rooms))
            self.assertEqual(joint_pieces(house, looks, opened=opened, shut=shut), wanted)
            self.assertEqual(joint_pieces(house, looks, shut=tuple(shut)), wanted)

    def test_example_of_the_document(self):
        self.assertEqual(joint_pieces(HOUSE, FITS), [(0,), (1, 2)])

    def test_no_looks(self):
        self.assertEqual(joint_pieces(House.full(12), []), [tuple(range(12))])
        self.assertEqual(joint_pieces(House(2, []), []), [(0,), (1,)])
        self.assertEqual(joint_pieces(HOUSE, [], shut=[(0, 1), (1, 2)]), [(0,), (1,), (2,)])
        self.assertEqual(joint_pieces(HOUSE, [], opened=[(0, 1), (1, 2)]), [(0, 1, 2)])

    def test_rooms_that_look_alike_but_are_not_joined(self):
        looks = [(0, [None] * 4), (2, ["a", "b", "a", "a"])]
        self.assertEqual(joint_pieces(House.corridor(4), looks), [(0,), (1,), (2, 3)])
        self.assertEqual(joint_pieces(House.star(4), looks), [(0, 2, 3), (1,)])


class LooksAnswerTest(unittest.TestCase):
    def test_examples_of_the_document(self):
        self.assertEqual(looks_answer(HOUSE, LOG, FITS), ("opening", [(1, 2)]))
        self.assertEqual(looks_answer(HOUSE, LOG, CLASH), ("clash", (1, 2), 0, 1))

    def test_against_the_definition(self):
        kinds = []
        for house, log, looks, opened, shut in some_looks(1082, 1000):
            answer = looks_answer(house, log, looks, opened=opened, shut=shut)
            self.assertEqual(answer, answer_by_definition(house, log, looks, opened, shut))
            kinds.append(answer[0])
        for kind in ("apart", "clash", "opening"):
            self.assertGreater(kinds.count(kind), 20)

    def test_against_all_openings(self):
        for house, log, looks, opened, shut in some_looks(1083, 300):
            answer = looks_answer(house, log, looks, opened=opened, shut=shut)
            fitting = fitting_openings_of(house, log, looks, opened, shut)
            self.assertIs(answer[0] == "opening", bool(fitting))
            if fitting:
                self.assertIn(answer[1], fitting)
                self.assertTrue(all(set(opening) <= set(answer[1]) for opening in fitting))

    def test_apart(self):
        house = House.ring(4)
        looks = [(0, [None] * 4), (1, ["a", None, None, "a"]), (2, ["a", "b", "b", "a"])]
        log = [(0, "a"), (1, "b")]
        for opened, door in (([(0, 1)], (0, 1)), ([(0, 3), (2, 3)], (2, 3)), ([(0, 1), (2, 3)], (0, 1))):
            self.assertEqual(looks_answer(house, log, looks, opened=opened), ("apart", door, 1))
        self.assertEqual(looks_answer(house, log, looks[2:] + looks[:2], opened=((0, 1),)), ("apart", (0, 1), 0))
        # This comes first, also if a joint piece is not sound.
        self.assertEqual(looks_answer(house, [], looks, opened=[(2, 3)]), ("apart", (2, 3), 1))

    def test_clash(self):
        house = House(4, [(0, 3), (1, 2)])
        looks = [(1, ["a", None, None, "a"]), (2, ["a", "a", "a", "a"])]
        self.assertEqual(looks_answer(house, [(3, "a"), (1, "b")], looks), ("clash", (1, 2), 1, 1))
        self.assertEqual(looks_answer(house, [(3, "b"), (1, "b")], looks), ("clash", (0, 3), 0, 3))
        self.assertEqual(looks_answer(house, [(3, "a"), (3, "a")], looks), ("clash", (1, 2), 1, None))
        self.assertEqual(looks_answer(house, [(1, "a"), (3, "a")], looks), ("clash", (0, 3), 0, None))

    def test_eight_looks_in_any_order(self):
        dice = random.Random(1084)
        for house in itertools.chain(some_houses(1085, 12, 6), [House.full(12), House(12, [])]):
            log = a_log(dice, 12, 60)
            truth = [door for door in house.doors() if dice.random() < 0.2]
            looks = [(count, hear(house, log[:count], truth)) for count in (60, 0, 13, 60, 7, 31, 0, 1)]
            answer = looks_answer(house, log, looks, opened=truth[:2])
            self.assertEqual(answer, ("opening", inner_of(house, looks, [])))
            self.assertTrue(opening_fits(house, log, looks, answer[1], opened=truth[:2]))
            self.assertTrue(set(truth) <= set(answer[1]))

    def test_one_room_and_no_calls(self):
        house = House(1, [])
        self.assertEqual(looks_answer(house, [], []), ("opening", []))
        self.assertEqual(looks_answer(house, [], [(0, [None])]), ("opening", []))
        self.assertEqual(looks_answer(house, [], [(0, ["a"])]), ("clash", (0,), 0, None))
        self.assertEqual(looks_answer(house, [(0, "a")], [(0, ["a"]), (1, ["a"])]), ("clash", (0,), 0, None))
        self.assertEqual(looks_answer(house, [(0, "a")], [(1, [None])]), ("clash", (0,), 0, 0))


class OpeningFitsTest(unittest.TestCase):
    def test_against_call_by_call(self):
        results = set()
        for house, log, looks, opened, shut in some_looks(1086, 200, most_doors=5):
            fitting = fitting_openings_of(house, log, looks, opened, shut)
            for chosen in subsets(house.doors()):
                opening = list(chosen)
                self.assertIs(opening_fits(house, log, looks, opening, opened=opened, shut=shut), opening in fitting)
                results.add(opening in fitting)
        self.assertEqual(results, {True, False})

    def test_known_doors(self):
        for opened, shut, wanted in (
            ([], [], True), ([(0, 1)], [], True), ([], [(1, 2)], True), ((), ((1, 2),), True), (((0, 1),), (), True),
            ([(1, 2)], [], False), ([], [(0, 1)], False), ([(0, 1)], [(1, 2)], True), ([(0, 1), (1, 2)], [], False),
        ):
            self.assertIs(opening_fits(HOUSE, [], [], [(0, 1)], opened=opened, shut=shut), wanted)

    def test_the_count_of_a_look(self):
        for count, seen in ((0, [None] * 3), (1, ["bell", None, None]), (2, ["bell", "drum", "drum"])):
            self.assertIs(opening_fits(HOUSE, LOG, [(count, seen)], [(1, 2)]), True)
            self.assertIs(opening_fits(HOUSE, LOG, [(3, seen)], [(1, 2)]), False)
            self.assertIs(opening_fits(HOUSE, LOG, FITS + [(count, seen)], [(1, 2)]), True)


class DoorsTest(unittest.TestCase):
    def test_examples_of_the_document(self):
        self.assertEqual(door_states(HOUSE, LOG, FITS), ["shut", "open"])
        self.assertEqual(door_certificate(HOUSE, LOG, FITS, (0, 1)), ("unlike", 0))
        self.assertEqual(door_certificate(HOUSE, LOG, FITS, (1, 2)), ("needed", (2,), 0))

    def test_against_all_openings(self):
        states, kinds = [], []
        for house, log, looks, opened, shut in some_looks(1087, 500):
            fitting = fitting_openings_of(house, log, looks, opened, shut)
            if not fitting:
                with self.assertRaises(Impossible):
                    door_states(house, log, looks, opened=opened, shut=shut)
                continue
            wanted = [state_of(door, fitting) for door in house.doors()]
            self.assertEqual(door_states(house, log, looks, opened=opened, shut=shut), wanted)
            states += wanted
            for door, state in zip(house.doors(), wanted):
                certificate = door_certificate(house, log, looks, door, opened=opened, shut=shut)
                by_definition = certificate_by_definition(house, log, looks, door, opened, shut, state)
                self.assertEqual(certificate, by_definition)
                kinds.append(certificate[0])
                if certificate[0] == "free":
                    self.assertIn(certificate[1], fitting)
                    self.assertIn(certificate[2], fitting)
        for state in ("open", "shut", "free"):
            self.assertGreater(states.count(state), 50)
        for kind in ("known", "unlike", "needed", "free"):
            self.assertGreater(kinds.count(kind), 20)

    def test_the_half_of_a_needed_door(self):
        # Room 1 called horn; alone, rooms 2 and 3 would keep drum, and room 0 bell.
        house = House.corridor(4)
        log = [(0, "bell"), (3, "drum"), (1, "horn")]
        looks = [(0, [None] * 4), (3, ["horn"] * 4)]
        self.assertEqual(door_states(house, log, looks), ["open", "open", "open"])
        self.assertEqual(door_certificate(house, log, looks, (0, 1)), ("needed", (0,), 1))
        self.assertEqual(door_certificate(house, log, looks, (1, 2)), ("needed", (2, 3), 1))
        # The half that holds the lesser room of the door comes first, though its least room is not the least.
        house = House(3, [(0, 2), (1, 2)])
        log = [(0, "a"), (1, "b"), (2, "c")]
        self.assertEqual(door_certificate(house, log, [(3, ["c"] * 3)], (0, 2)), ("needed", (0,), 0))
        self.assertEqual(door_certificate(house, log, [(3, ["c"] * 3)], (1, 2)), ("needed", (1,), 0))
        house = House(4, [(0, 3), (1, 2), (2, 3)])
        log = [(3, "a"), (0, "b"), (1, "c")]
        looks = [(3, ["c"] * 4)]
        self.assertEqual(door_certificate(house, log, looks, (2, 3)), ("needed", (0, 3), 0))
        looks = [(2, ["b"] * 4), (3, ["c"] * 4)]
        self.assertEqual(door_certificate(house, log, looks, (2, 3)), ("needed", (1, 2), 0))

    def test_known_doors(self):
        for opened, shut in (([(0, 1)], [(1, 2)]), (((0, 1),), ((1, 2),))):
            self.assertEqual(door_states(HOUSE, [], [], opened=opened, shut=shut), ["open", "shut"])
            for door in HOUSE.doors():
                self.assertEqual(door_certificate(HOUSE, [], [], door, opened=opened, shut=shut), ("known",))
        self.assertEqual(door_states(HOUSE, [], []), ["free", "free"])
        self.assertEqual(door_certificate(HOUSE, [], [], (0, 1)), ("free", [(1, 2)], [(0, 1), (1, 2)]))
        # A door that is known to be shut is known, also if its rooms do not look alike.
        self.assertEqual(door_certificate(HOUSE, LOG, FITS, (0, 1), shut=[(0, 1)]), ("known",))
        self.assertEqual(door_certificate(HOUSE, LOG, FITS, (1, 2), opened=[(1, 2)]), ("known",))
        everything = House.full(4).doors()
        self.assertEqual(door_states(House.full(4), [], [], opened=everything), ["open"] * 6)
        self.assertEqual(door_states(House.full(4), [], [], shut=everything), ["shut"] * 6)

    def test_twelve_rooms(self):
        house = House.full(12)
        log = [(room, "a") for room in range(12)]
        self.assertEqual(door_states(house, log, [(12, ["a"] * 12)]), ["free"] * 66)
        self.assertEqual(door_states(house, log[:1], [(1, ["a"] * 12)]), ["free"] * 66)
        self.assertEqual(door_states(House.star(12), log[:1], [(1, ["a"] * 12)]), ["open"] * 11)
        self.assertEqual(door_certificate(House.star(12), log[:1], [(1, ["a"] * 12)], (0, 7)), ("needed", (7,), 0))
        self.assertEqual(door_states(House(12, []), log, [(12, ["a"] * 12)]), [])

    def test_no_opening_fits(self):
        for house, log, looks, opened in (
            (HOUSE, LOG, CLASH, []), (HOUSE, LOG, FITS, [(0, 1)]), (HOUSE, [], [(0, ["a"] * 3)], [(0, 1)]),
        ):
            with self.assertRaises(Impossible):
                door_states(house, log, looks, opened=opened)
            for door in house.doors():
                with self.assertRaises(Impossible):
                    door_certificate(house, log, looks, door, opened=opened)
        with self.assertRaises(Impossible):
            door_states(House(1, []), [], [(0, ["a"])])


class CleanTest(unittest.TestCase):
    def test_lists(self):
        log, looks, opened, shut = list(LOG), copy.deepcopy(FITS) + [(0, [None] * 4)], [(2, 3)], [(0, 1)]
        looks[0][1].append("horn")
        house = House(4, [(0, 1), (0, 2), (1, 2), (2, 3)])
        for function, arguments in (
            (joint_pieces, (house, looks)),
            (looks_answer, (house, log, looks)),
            (opening_fits, (house, log, looks, [(1, 2), (2, 3)])),
            (door_states, (house, log, looks)),
            (door_certificate, (house, log, looks, (1, 2))),
            (door_certificate, (house, log, looks, (0, 2))),
            (looks_answer, (house, log, [])),
            (door_certificate, (house, log, [], (0, 2))),
        ):
            before = copy.deepcopy((arguments[1:], opened, shut))
            answer = function(*arguments, opened=opened, shut=shut)
            kept = copy.deepcopy(answer)
            self.assertEqual((arguments[1:], opened, shut), before)
            spoil(answer)
            self.assertEqual((arguments[1:], opened, shut), before)
            self.assertEqual(function(*arguments, opened=opened, shut=shut), kept)
