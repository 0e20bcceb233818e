"""callsheard/certificates.py: [14] and [15], and [20] with them."""

import random
import unittest

from callsheard.alike import alike, parting_path
from callsheard.certificates import alike_certificate, check_certificate, crossed_pairs
from callsheard.house import House
from tests.support import by_definition_last_calls, check_clean, joined, subsets, trials, two_logs

LOG = [(0, "bell"), (2, "horn"), (1, "drum")]
OTHER = [(2, "horn"), (0, "bell"), (1, "drum")]


def places(log):
    return {room: place for place, (room, _) in enumerate(by_definition_last_calls(log))}


def same_ends(first, second):
    return sorted(by_definition_last_calls(first)) == sorted(by_definition_last_calls(second))


def crossed_by_definition(first, second):
    words = dict(by_definition_last_calls(first))
    one, two = places(first), places(second)
    return sorted(
        (x, y) for x in words for y in words if words[x] != words[y] and one[x] > one[y] and two[y] > two[x]
    )


def hall_by_definition(house, first, second, x, y):
    one, two = places(first), places(second)
    return [
        room for room in range(house.rooms)
        if not (room in one and one[room] > one[x]) and not (room in two and two[room] > two[y])
    ]


def is_entry(house, first, second, x, y, rooms):
    inside = hall_by_definition(house, first, second, x, y)
    if not (list(rooms) == sorted(set(rooms)) and set(rooms) <= set(inside) and x in rooms and y not in rooms):
        return False
    return all(b in rooms for a in rooms for b in house.neighbours(a) if b in inside)


class CrossedPairsTest(unittest.TestCase):
    def test_examples(self):
        self.assertEqual(crossed_pairs(LOG, OTHER), [(2, 0)])
        self.assertEqual(crossed_pairs(OTHER, LOG), [(0, 2)])
        self.assertEqual(crossed_pairs(LOG, LOG), [])
        self.assertEqual(crossed_pairs([], []), [])
        self.assertEqual(crossed_pairs([(0, "a"), (1, "a")], [(1, "a"), (0, "a")]), [])
        self.assertEqual(crossed_pairs(LOG, LOG[::-1]), [(1, 0), (1, 2), (2, 0)])

    def test_only_last_calls_count(self):
        self.assertEqual(crossed_pairs([(1, "a"), (0, "b"), (1, "a")], [(1, "a"), (0, "b")]), [(1, 0)])
        self.assertEqual(crossed_pairs([(1, "a"), (0, "a"), (0, "b")], [(0, "b"), (1, "a"), (0, "b")]), [])

    def test_against_the_definition(self):
        for _, first, second in trials(31):
            if same_ends(first, second):
                self.assertEqual(crossed_pairs(first, second), crossed_by_definition(first, second))

    def test_sixty_calls(self):
        first = [(room, "abcdefghijkl"[room]) for room in range(12)] * 5
        self.assertEqual(crossed_pairs(first, first[::-1]), [(x, y) for x in range(12) for y in range(x)])


class CertificateTest(unittest.TestCase):
    def test_example_of_the_document(self):
        house = House.corridor(3)
        self.assertEqual(alike_certificate(house, LOG, OTHER), [(2, 0, (2,))])
        self.assertIs(check_certificate(house, LOG, OTHER, [(2, 0, (2,))]), True)

    def test_a_certificate_or_a_parting_path(self):
        for house, first, second in trials(32):
            certificate = alike_certificate(house, first, second)
            self.assertIs(certificate is None, parting_path(house, first, second) is not None)
            if certificate is not None:
                self.assertIs(check_certificate(house, first, second, certificate), True)

    def test_the_least_certificate(self):
        for house, first, second in trials(33):
            certificate = alike_certificate(house, first, second)
            if certificate is not None:
                wanted = []
                for x, y in crossed_by_definition(first, second):
                    inside = hall_by_definition(house, first, second, x, y)
                    wanted.append((x, y, tuple(room for room in inside if joined(house.doors(), x, room, inside))))
                self.assertEqual(certificate, wanted)

    def test_each_certificate_is_told_from_the_others(self):
        dice = random.Random(34)
        results = set()
        for house, first, second in trials(34):
            pairs = crossed_by_definition(first, second) if same_ends(first, second) else []
            if not pairs or house.rooms > 4:
                continue
            certificate = alike_certificate(house, first, second)
            at = dice.randrange(len(pairs))
            x, y = pairs[at]
            for rooms in subsets(range(house.rooms)):
                for passed in (rooms, rooms[::-1], rooms + rooms[-1:]):
                    if certificate is None:
                        tried = [(x, y, passed) for x, y in pairs]
                        wanted = all(is_entry(house, first, second, *entry) for entry in tried)
                        self.assertFalse(wanted)
                    else:
                        tried = certificate[:at] + [(x, y, passed)] + certificate[at + 1:]
                        wanted = is_entry(house, first, second, x, y, passed)
                    self.assertIs(check_certificate(house, first, second, tried), wanted)
                    results.add((certificate is None, wanted))
        self.assertEqual(results, {(True, False), (False, False), (False, True)})

    def test_logs_with_unlike_last_words_have_none(self):
        house = House(3, [])
        for first, second in (
            ([(0, "a")], [(0, "b")]),
            ([(0, "a")], [(1, "a")]),
            ([(0, "a")], []),
            ([], [(2, "a")]),
            ([(0, "a"), (1, "b")], [(0, "a")]),
            ([(0, "a")], [(0, "a"), (1, "b")]),
        ):
            self.assertIsNone(alike_certificate(house, first, second))
            for certificate in ([], [(0, 1, (0,))], [(1, 0, (1,))]):
                self.assertIs(check_certificate(house, first, second, certificate), False)

    def test_no_crossed_pair(self):
        for house in (House(1, []), House.full(12)):
            for log in ([], [(0, "a")], [(0, "a"), (0, "b")] * 30):
                self.assertEqual(alike_certificate(house, log, log), [])
                self.assertIs(check_certificate(house, log, log, []), True)
                self.assertIs(check_certificate(house, log, log, [(0, 0, (0,))]), False)

    def test_certificates_that_break_one_rule(self):
        # Rooms 0 and 4 are called, room 2 later; 1, 3 and 5 are silent.
        house = House(6, [(0, 1), (1, 2), (2, 3), (3, 4)])
        first = [(0, "a"), (4, "b"), (2, "c")]
        second = [(4, "b"), (0, "a"), (2, "c")]
        self.assertEqual(alike_certificate(house, first, second), [(4, 0, (3, 4))])
        for rooms in ((3, 4), (3, 4, 5)):
            self.assertIs(check_certificate(house, first, second, [(4, 0, rooms)]), True)
        for certificate in (
            [],
            [(4, 0, ())],
            [(4, 0, (5,))],
            [(4, 0, (4,))],
            [(4, 0, (4, 3))],
            [(4, 0, (3, 3, 4))],
            [(4, 0, (3, 4, 4))],
            [(4, 0, (2, 3, 4))],
            [(4, 0, (0, 1, 3, 4))],
            [(4, 0, (1, 3, 4))],
            [(0, 4, (0, 1))],
            [(0, 4, (3, 4))],
            [(4, 0, (3, 4)), (4, 0, (3, 4))],
            [(4, 0, (3, 4)), (5, 0, (5,))],
            [(2, 0, (2,)), (4, 0, (3, 4))],
        ):
            self.assertIs(check_certificate(house, first, second, certificate), False, certificate)

    def test_entries_out_of_order_or_missing(self):
        house = House(3, [])
        first, second = LOG, LOG[::-1]
        certificate = [(1, 0, (1,)), (1, 2, (1,)), (2, 0, (2,))]
        self.assertEqual(alike_certificate(house, first, second), certificate)
        self.assertIs(check_certificate(house, first, second, certificate), True)
        self.assertIs(check_certificate(house, first, second, certificate[::-1]), False)
        for at in range(3):
            self.assertIs(check_certificate(house, first, second, certificate[:at] + certificate[at + 1:]), False)
            self.assertIs(check_certificate(house, first, second, certificate + [certificate[at]]), False)

    def test_rooms_on_the_way_that_are_called_earlier_belong_to_the_hall(self):
        house = House.corridor(3)
        first, second = [(1, "c"), (0, "a"), (2, "b")], [(1, "c"), (2, "b"), (0, "a")]
        self.assertIsNone(alike_certificate(house, first, second))
        self.assertIs(check_certificate(house, first, second, [(2, 0, (2,))]), False)
        self.assertIs(check_certificate(house, first, second, [(2, 0, (1, 2))]), False)

    def test_the_hall_of_each_log(self):
        # Room 1 is too late in one of the logs only.
        house = House.corridor(3)
        first, second = [(0, "a"), (2, "b"), (1, "b")], [(1, "b"), (2, "b"), (0, "a")]
        self.assertEqual(crossed_pairs(first, second), [(1, 0), (2, 0)])
        self.assertIsNone(alike_certificate(house, first, second))
        first, second = [(0, "a"), (2, "b"), (1, "a")], [(1, "a"), (2, "b"), (0, "a")]
        self.assertIs(alike(house, first, second), alike_certificate(house, first, second) is not None)

    def test_the_full_house_of_twelve_rooms(self):
        house = House.full(12)
        log = [(room, "abcdefghijkl"[room]) for room in range(12)]
        self.assertIsNone(alike_certificate(house, log, log[::-1]))
        self.assertIsNone(alike_certificate(house, log, log[:8] + [log[9], log[8]] + log[10:]))
        silent = [(3, "a"), (7, "a")]
        self.assertEqual(alike_certificate(house, silent, silent[::-1]), [])

    def test_twelve_rooms(self):
        house = House.corridor(12)
        first = [(0, "a"), (11, "b"), (6, "c")]
        second = [(11, "b"), (0, "a"), (6, "c")]
        self.assertEqual(alike_certificate(house, first, second), [(11, 0, (7, 8, 9, 10, 11))])
        self.assertEqual(alike_certificate(house, second, first), [(0, 11, (0, 1, 2, 3, 4, 5))])
        apart = House(12, [])
        log = [(room, "abcdefghijkl"[room]) for room in range(12)]
        wanted = [(x, y, (x,)) for x in range(12) for y in range(x)]
        self.assertEqual(alike_certificate(apart, log, log[::-1]), wanted)
        self.assertIs(check_certificate(apart, log * 5, log[::-1], wanted), True)

    def test_large_houses_have_one_or_the_other(self):
        dice = random.Random(35)
        house = House(12, [(a, b) for a in range(12) for b in range(a) if (a * b) % 3 == 1])
        for _ in range(100):
            first, second = two_logs(dice, 12, ["a", "b"])
            certificate = alike_certificate(house, first, second)
            self.assertIs(certificate is None, parting_path(house, first, second) is not None)
            if certificate is not None:
                self.assertIs(check_certificate(house, first, second, certificate), True)


class CleanTest(unittest.TestCase):
    def test_lists(self):
        house = House.corridor(3)
        check_clean(self, crossed_pairs, list(LOG), list(OTHER))
        check_clean(self, alike_certificate, house, list(LOG), list(OTHER))
        check_clean(self, check_certificate, house, list(LOG), list(OTHER), [(2, 0, (2,))])
