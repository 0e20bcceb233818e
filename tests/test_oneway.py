"""callsheard/oneway.py: [16] to [19] and the interface."""

import itertools
import random
import unittest

from callsheard.alike import alike
from callsheard.errors import BadHouse
from callsheard.house import House
from callsheard.oneway import (
    OneWayHouse, alike_one_way, both_ways, check_one_way, hear_one_way, is_parting_fork, one_way_certificate,
    parting_fork,
)
from tests.support import (
    a_log, by_definition_last_calls, check_clean, heard_one_way, one_way_paths_of, spoil, subsets, trials, two_logs,
    word_in,
)

ALPHABET = "abcdefghijkl"


def every_one_way_house(rooms):
    for doors in subsets(itertools.permutations(range(rooms), 2)):
        yield OneWayHouse(rooms, list(doors))


def some_one_way_houses(seed, rooms, count):
    dice = random.Random(seed)
    for _ in range(count):
        chance = dice.choice([0.2, 0.35, 0.6])
        doors = [door for door in itertools.permutations(range(rooms), 2) if dice.random() < chance]
        yield OneWayHouse(rooms, doors)


def one_way_trials(seed):
    dice = random.Random(seed)
    for house in itertools.chain(
        every_one_way_house(1), every_one_way_house(2), every_one_way_house(3), some_one_way_houses(seed, 4, 60)
    ):
        for _ in range(4):
            first, second = two_logs(dice, house.rooms)
            yield house, first, second
        if house.rooms == 4:
            # Two called rooms leave long ways through silent ones.
            first = list(zip(dice.sample(range(4), 2), ("bell", "horn")))
            yield house, first, first[::-1]


def forks_in_order(house):
    """All forks of a house, the first ones first."""
    ends = {}
    for path in one_way_paths_of(house):
        ends.setdefault(path[-1], []).append(path)
    forks = [(room, left, right) for room, paths in ends.items() for left in paths for right in paths]
    return sorted(forks, key=lambda fork: (len(fork[1]) + len(fork[2]), fork))


def parts(first, second, fork):
    rooms = set(fork[1]) | set(fork[2])
    return word_in(first, rooms) != word_in(second, rooms)


def full_one_way(rooms):
    return OneWayHouse(rooms, list(itertools.permutations(range(rooms), 2)))


class OneWayHouseTest(unittest.TestCase):
    def place(self, rooms, doors):
        with self.assertRaises(BadHouse) as caught:
            OneWayHouse(rooms, doors)
        return caught.exception.place

    def test_doors_in_any_order(self):
        doors = [(2, 0), (0, 1), (1, 0), (0, 2)]
        for passed in itertools.permutations(doors):
            house = OneWayHouse(3, list(passed))
            self.assertEqual((house.rooms, house.doors()), (3, [(0, 1), (0, 2), (1, 0), (2, 0)]))
            self.assertEqual([house.following(room) for room in range(3)], [[1, 2], [0], [0]])

    def test_one_and_twelve_rooms(self):
        self.assertEqual((OneWayHouse(1, []).doors(), OneWayHouse(1, []).following(0)), ([], []))
        house = OneWayHouse(12, [(11, 0), (11, 10)])
        self.assertEqual((house.rooms, house.following(11), house.following(0)), (12, [0, 10], []))
        self.assertEqual(len(full_one_way(12).doors()), 132)

    def test_bad_number_of_rooms(self):
        for rooms in (0, -1, 13, 10 ** 9):
            self.assertEqual(self.place(rooms, []), -1)
            self.assertEqual(self.place(rooms, [(0, 0)]), -1)

    def test_a_number_that_is_not_a_room(self):
        self.assertEqual(self.place(3, [(0, 3)]), 0)
        self.assertEqual(self.place(3, [(0, 1), (3, 0)]), 1)
        self.assertEqual(self.place(3, [(0, 1), (1, 0), (-1, 0)]), 2)
        self.assertEqual(self.place(3, [(0, -1)]), 0)

    def test_the_same_room_twice(self):
        self.assertEqual(self.place(3, [(0, 1), (2, 2)]), 1)

    def test_a_door_twice(self):
        self.assertEqual(self.place(3, [(0, 1), (1, 0), (0, 1)]), 2)
        self.assertEqual(self.place(3, [(1, 0), (1, 0)]), 1)

    def test_the_first_wrong_entry_counts(self):
        self.assertEqual(self.place(3, [(0, 1), (0, 1), (2, 2), (0, 9)]), 1)
        self.assertEqual(self.place(3, [(0, 9), (2, 2), (0, 9)]), 0)

    def test_lists_do_not_matter_later(self):
        doors = [(1, 0), (0, 1)]
        house = OneWayHouse(3, doors)
        self.assertEqual(doors, [(1, 0), (0, 1)])
        spoil(doors)
        check_clean(self, house.doors)
        check_clean(self, house.following, 0)
        self.assertEqual((house.doors(), house.following(0)), ([(0, 1), (1, 0)], [1]))

    def test_both_ways(self):
        house = both_ways(House(4, [(3, 0), (1, 3)]))
        self.assertIsInstance(house, OneWayHouse)
        self.assertEqual((house.rooms, house.doors()), (4, [(0, 3), (1, 3), (3, 0), (3, 1)]))
        self.assertEqual(both_ways(House(1, [])).doors(), [])
        self.assertEqual(both_ways(House.full(12)).doors(), full_one_way(12).doors())


class HearTest(unittest.TestCase):
    def test_calls_go_one_way(self):
        house = OneWayHouse(3, [(0, 1), (1, 2), (2, 1)])
        self.assertEqual(hear_one_way(house, [(0, "a")], [(0, 1), (1, 2)]), ["a", "a", "a"])
        self.assertEqual(hear_one_way(house, [(2, "a")], [(0, 1), (1, 2)]), [None, None, "a"])
        self.assertEqual(hear_one_way(house, [(0, "a"), (2, "b")], [(0, 1), (2, 1)]), ["a", "b", "b"])
        self.assertEqual(hear_one_way(house, [(0, "a")], [(1, 2), (2, 1)]), ["a", None, None])
        self.assertEqual(hear_one_way(house, [], house.doors()), [None] * 3)

    def test_against_the_definition(self):
        dice = random.Random(41)
        for house in itertools.chain(every_one_way_house(3), some_one_way_houses(42, 6, 40)):
            doors = house.doors()
            for _ in range(4):
                opening = sorted(dice.sample(doors, dice.randrange(len(doors) + 1)))
                log = a_log(dice, house.rooms, dice.randrange(8))
                self.assertEqual(hear_one_way(house, log, opening), heard_one_way(house, log, opening))

    def test_sixty_calls(self):
        dice = random.Random(43)
        house = full_one_way(12)
        for _ in range(10):
            opening = sorted(dice.sample(house.doors(), 14))
            log = a_log(dice, 12, 60)
            self.assertEqual(hear_one_way(house, log, opening), heard_one_way(house, log, opening))


class ForkTest(unittest.TestCase):
    def test_alike_is_that_all_openings_sound_alike(self):
        results = set()
        for house, first, second in one_way_trials(44):
            if len(house.doors()) <= 6:
                wanted = all(
                    heard_one_way(house, first, opening) == heard_one_way(house, second, opening)
                    for opening in subsets(house.doors())
                )
                self.assertIs(alike_one_way(house, first, second), wanted)
                results.add(wanted)
        self.assertEqual(results, {True, False})

    def test_the_first_parting_fork(self):
        sums = set()
        for house, first, second in one_way_trials(45):
            wanted = next((fork for fork in forks_in_order(house) if parts(first, second, fork)), None)
            self.assertEqual(parting_fork(house, first, second), wanted)
            sums.add(wanted and len(wanted[1]) + len(wanted[2]))
        self.assertLessEqual({None, 2, 3, 4, 5}, sums)

    def test_what_is_said_of_the_first_parting_fork(self):
        for house, first, second in one_way_trials(46):
            fork = parting_fork(house, first, second)
            if fork is not None and len(house.doors()) <= 6:
                room, left, right = fork
                opening = sorted(set(list(zip(left, left[1:])) + list(zip(right, right[1:]))))
                self.assertNotEqual(
                    hear_one_way(house, first, opening)[room], hear_one_way(house, second, opening)[room]
                )
                for fewer in subsets(house.doors()):
                    if len(fewer) < len(left) + len(right) - 2:
                        self.assertEqual(
                            hear_one_way(house, first, list(fewer)), hear_one_way(house, second, list(fewer))
                        )

    def test_examples(self):
        first, second = [(0, "a"), (2, "b")], [(2, "b"), (0, "a")]
        self.assertEqual(parting_fork(OneWayHouse(3, [(0, 1), (2, 1)]), first, second), (1, (0, 1), (2, 1)))
        self.assertIsNone(parting_fork(OneWayHouse(3, [(1, 0), (1, 2)]), first, second))
        self.assertEqual(parting_fork(OneWayHouse(3, [(0, 2)]), first, second), (2, (0, 2), (2,)))
        self.assertEqual(parting_fork(OneWayHouse(3, [(2, 0)]), first, second), (0, (0,), (2, 0)))
        self.assertEqual(parting_fork(OneWayHouse(3, [(0, 2), (2, 0)]), first, second), (0, (0,), (2, 0)))
        self.assertEqual(parting_fork(OneWayHouse(3, [(0, 2), (2, 0)]), second, first), (0, (0,), (2, 0)))

    def test_one_room_and_silence(self):
        house = OneWayHouse(1, [])
        self.assertIsNone(parting_fork(house, [], []))
        self.assertIs(alike_one_way(house, [(0, "b"), (0, "a")], [(0, "a")]), True)
        self.assertEqual(parting_fork(house, [], [(0, "a")]), (0, (0,), (0,)))
        self.assertEqual(parting_fork(house, [(0, "b")], [(0, "a")]), (0, (0,), (0,)))
        self.assertEqual(parting_fork(full_one_way(12), [(9, "a"), (4, "a")], []), (4, (4,), (4,)))

    def test_the_full_house_of_twelve_rooms(self):
        house = full_one_way(12)
        log = [(room, ALPHABET[room]) for room in range(12)]
        self.assertEqual(parting_fork(house, log, log[::-1]), (0, (0,), (1, 0)))
        self.assertEqual(parting_fork(house, log * 5, log * 4 + log[::-1]), (0, (0,), (1, 0)))
        swapped = log[:8] + [log[9], log[8]] + log[10:]
        self.assertEqual(parting_fork(house, log, swapped), (8, (8,), (9, 8)))
        same = [(room, "a") for room in range(12)]
        self.assertIs(alike_one_way(house, same, same[::-1]), True)

    def test_long_ways(self):
        house = OneWayHouse(12, [(k, k + 1) for k in range(11)])
        self.assertEqual(
            parting_fork(house, [(0, "a"), (11, "b")], [(11, "b"), (0, "a")]), (11, tuple(range(12)), (11,))
        )
        house = OneWayHouse(12, [(k, k + 1) for k in range(5)] + [(k, k - 1) for k in range(11, 5, -1)])
        first, second = [(0, "a"), (11, "b")], [(11, "b"), (0, "a")]
        self.assertEqual(parting_fork(house, first, second), (5, (0, 1, 2, 3, 4, 5), (11, 10, 9, 8, 7, 6, 5)))

    def test_the_two_way_double(self):
        for house, first, second in trials(47):
            self.assertIs(alike_one_way(both_ways(house), first, second), alike(house, first, second))
        dice = random.Random(48)
        for house in (House.full(12), House.ring(12), House.star(12)):
            for _ in range(30):
                first, second = two_logs(dice, 12, ["a", "b"])
                self.assertIs(alike_one_way(both_ways(house), first, second), alike(house, first, second))


class IsPartingForkTest(unittest.TestCase):
    def test_against_the_definition(self):
        for house, first, second in itertools.islice(one_way_trials(49), 0, None, 4):
            for fork in forks_in_order(house):
                self.assertIs(is_parting_fork(house, first, second, fork), parts(first, second, fork))

    def test_triples_that_are_no_forks(self):
        house = OneWayHouse(4, [(0, 1), (2, 1), (1, 3), (3, 1), (1, 2)])
        first, second = [(0, "a"), (2, "b")], [(2, "b"), (0, "a")]
        for fork in ((1, (0, 1), (2, 1)), (1, (2, 1), (0, 1)), (2, (0, 1, 2), (2,)), (3, (0, 1, 3), (2, 1, 3))):
            self.assertIs(is_parting_fork(house, first, second, fork), True, fork)
        for fork in (
            (1, (), (2, 1)),
            (1, (0, 1), ()),
            (1, (), ()),
            (3, (0, 1), (2, 1)),
            (1, (0, 1, 3), (2, 1)),
            (1, (0, 1), (2, 1, 3)),
            (2, (0, 2), (2,)),
            (2, (2,), (0, 2)),
            (0, (2, 1, 0), (0,)),
            (0, (0,), (2, 1, 0)),
            (1, (0, 1, 3, 1), (2, 1)),
            (1, (0, 1), (2, 1, 3, 1)),
            (1, (0, 1, 1), (2, 1)),
            (1, (0, 0, 1), (2, 1)),
            (1, (0, 1), (1,)),
            (1, (1,), (2, 1)),
        ):
            self.assertIs(is_parting_fork(house, first, second, fork), False, fork)

    def test_rooms_of_both_paths_count_as_one_set(self):
        house = OneWayHouse(3, [(0, 1), (2, 1)])
        self.assertIs(is_parting_fork(house, [(0, "a"), (2, "b"), (1, "c")], [(2, "b"), (0, "a"), (1, "c")],
                                      (1, (0, 1), (2, 1))), False)
        self.assertIs(is_parting_fork(house, [], [(0, "a")], (1, (0, 1), (2, 1))), True)
        self.assertIs(is_parting_fork(house, [(0, "a")], [], (1, (1,), (2, 1))), False)


class CertificateTest(unittest.TestCase):
    def pairs(self, first, second):
        """The crossed pairs, or None if the last words differ."""
        lasts, others = by_definition_last_calls(first), by_definition_last_calls(second)
        if sorted(lasts) != sorted(others):
            return None
        words = dict(lasts)
        one = [room for room, _ in lasts]
        two = [room for room, _ in others]
        return [
            (x, y) for x in sorted(words) for y in sorted(words)
            if words[x] != words[y] and one.index(x) > one.index(y) and two.index(y) > two.index(x)
        ]

    def inside(self, house, first, second, x, y):
        one = [room for room, _ in by_definition_last_calls(first)]
        two = [room for room, _ in by_definition_last_calls(second)]
        late = set(one[one.index(x) + 1:]) | set(two[two.index(y) + 1:])
        return [room for room in range(house.rooms) if room not in late]

    def is_entry(self, house, first, second, entry):
        x, y, left, right = entry
        inside = self.inside(house, first, second, x, y)
        if x not in left or y not in right or set(left) & set(right):
            return False
        for rooms in (left, right):
            if list(rooms) != sorted(set(rooms)) or not set(rooms) <= set(inside):
                return False
            if any(b in inside and b not in rooms for a in rooms for b in house.following(a)):
                return False
        return True

    def test_example(self):
        house = OneWayHouse(4, [(1, 0), (1, 2), (0, 3)])
        first, second = [(0, "a"), (2, "b")], [(2, "b"), (0, "a")]
        self.assertEqual(one_way_certificate(house, first, second), [(2, 0, (2,), (0, 3))])
        self.assertEqual(one_way_certificate(house, second, first), [(0, 2, (0, 3), (2,))])

    def test_a_certificate_or_a_parting_fork(self):
        for house, first, second in one_way_trials(50):
            certificate = one_way_certificate(house, first, second)
            self.assertIs(certificate is None, parting_fork(house, first, second) is not None)
            if certificate is not None:
                self.assertIs(check_one_way(house, first, second, certificate), True)

    def test_the_least_certificate(self):
        for house, first, second in one_way_trials(51):
            certificate = one_way_certificate(house, first, second)
            if certificate is not None:
                wanted = []
                for x, y in self.pairs(first, second):
                    inside = self.inside(house, first, second, x, y)
                    doors = [(a, b) for a, b in house.doors() if a in inside and b in inside]
                    sides = [heard_one_way(house, [(room, "a")], doors) for room in (x, y)]
                    left, right = [tuple(r for r in inside if side[r] is not None) for side in sides]
                    wanted.append((x, y, left, right))
                self.assertEqual(certificate, wanted)

    def test_each_certificate_is_told_from_the_others(self):
        dice = random.Random(52)
        results = set()
        for house, first, second in one_way_trials(52):
            pairs = self.pairs(first, second)
            certificate = one_way_certificate(house, first, second)
            if not pairs or certificate is None:
                continue
            at = dice.randrange(len(pairs))
            x, y = pairs[at]
            for left in subsets(range(house.rooms)):
                for right in subsets(range(house.rooms)):
                    entry = (x, y, left, right)
                    tried = certificate[:at] + [entry] + certificate[at + 1:]
                    wanted = self.is_entry(house, first, second, entry)
                    self.assertIs(check_one_way(house, first, second, tried), wanted)
                    results.add(wanted)
        self.assertEqual(results, {True, False})

    def test_no_certificate_of_logs_that_are_not_alike(self):
        dice = random.Random(53)
        for house, first, second in itertools.islice(one_way_trials(53), 0, None, 3):
            pairs = self.pairs(first, second)
            if pairs and one_way_certificate(house, first, second) is None:
                tried = [(x, y, (x,), (y,)) for x, y in pairs]
                inside = list(subsets(range(house.rooms)))
                tried_too = [(x, y, dice.choice(inside), dice.choice(inside)) for x, y in pairs]
                self.assertIs(check_one_way(house, first, second, tried), False)
                self.assertIs(check_one_way(house, first, second, tried_too), False)

    def test_logs_with_unlike_last_words_have_none(self):
        house = OneWayHouse(3, [])
        for first, second in (
            ([(0, "a")], [(0, "b")]), ([(0, "a")], []), ([], [(2, "a")]), ([(0, "a"), (1, "b")], [(0, "a")]),
            ([(0, "a")], [(1, "a")]),
        ):
            self.assertIsNone(one_way_certificate(house, first, second))
            for certificate in ([], [(0, 1, (0,), (1,))]):
                self.assertIs(check_one_way(house, first, second, certificate), False)

    def test_certificates_that_break_one_rule(self):
        # 0 and 4 are called, 2 is called later; doors lead from 0 to 1 and 2 and from 4 to 3 and 2.
        house = OneWayHouse(7, [(0, 1), (1, 2), (0, 2), (4, 3), (4, 2), (3, 2), (5, 1)])
        first = [(0, "a"), (4, "b"), (2, "c")]
        second = [(4, "b"), (0, "a"), (2, "c")]
        self.assertEqual(one_way_certificate(house, first, second), [(4, 0, (3, 4), (0, 1))])
        for left, right in (((3, 4), (0, 1)), ((3, 4, 6), (0, 1)), ((3, 4), (0, 1, 5, 6)), ((3, 4, 6), (0, 1, 5))):
            self.assertIs(check_one_way(house, first, second, [(4, 0, left, right)]), True)
        for certificate in (
            [],
            [(4, 0, (), (0, 1))],
            [(4, 0, (3, 4), ())],
            [(4, 0, (6,), (0, 1))],
            [(4, 0, (3, 4), (1,))],
            [(4, 0, (4,), (0, 1))],
            [(4, 0, (3, 4), (0,))],
            [(4, 0, (4, 3), (0, 1))],
            [(4, 0, (3, 4), (1, 0))],
            [(4, 0, (3, 3, 4), (0, 1))],
            [(4, 0, (3, 4), (0, 1, 1))],
            [(4, 0, (2, 3, 4), (0, 1))],
            [(4, 0, (3, 4), (0, 1, 2))],
            [(4, 0, (3, 4, 6), (0, 1, 6))],
            [(4, 0, (3, 4, 5), (0, 1))],
            [(0, 4, (0, 1), (3, 4))],
            [(0, 4, (3, 4), (0, 1))],
            [(4, 0, (3, 4), (0, 1)), (4, 0, (3, 4), (0, 1))],
            [(2, 0, (2,), (0, 1)), (4, 0, (3, 4), (0, 1))],
        ):
            self.assertIs(check_one_way(house, first, second, certificate), False, certificate)

    def test_entries_out_of_order_or_missing(self):
        house = OneWayHouse(3, [])
        first = [(0, "a"), (1, "b"), (2, "c")]
        certificate = [(1, 0, (1,), (0,)), (2, 0, (2,), (0,)), (2, 1, (2,), (1,))]
        self.assertEqual(one_way_certificate(house, first, first[::-1]), certificate)
        self.assertIs(check_one_way(house, first, first[::-1], certificate), True)
        self.assertIs(check_one_way(house, first, first[::-1], certificate[::-1]), False)
        for at in range(3):
            self.assertIs(check_one_way(house, first, first[::-1], certificate[:at] + certificate[at + 1:]), False)
            self.assertIs(check_one_way(house, first, first[::-1], certificate + [certificate[at]]), False)

    def test_twelve_rooms(self):
        log = [(room, ALPHABET[room]) for room in range(12)]
        self.assertIsNone(one_way_certificate(full_one_way(12), log, log[::-1]))
        self.assertEqual(one_way_certificate(full_one_way(12), log, log), [])
        self.assertEqual(one_way_certificate(full_one_way(12), [], []), [])
        self.assertIs(check_one_way(full_one_way(12), log * 5, log, []), True)
        bare = OneWayHouse(12, [])
        wanted = [(x, y, (x,), (y,)) for x in range(12) for y in range(x)]
        self.assertEqual(one_way_certificate(bare, log * 5, log[::-1]), wanted)
        self.assertIs(check_one_way(bare, log, log[::-1], wanted), True)


class CleanTest(unittest.TestCase):
    def test_lists(self):
        house = OneWayHouse(3, [(1, 0), (1, 2)])
        first, second = [(0, "a"), (2, "b")], [(2, "b"), (0, "a")]
        check_clean(self, hear_one_way, house, list(first), [(1, 0)])
        check_clean(self, parting_fork, house, list(first), list(second))
        check_clean(self, parting_fork, OneWayHouse(3, [(0, 1), (2, 1)]), list(first), list(second))
        check_clean(self, alike_one_way, house, list(first), list(second))
        check_clean(self, one_way_certificate, house, list(first), list(second))
        check_clean(self, check_one_way, house, list(first), list(second), [(2, 0, (2,), (0,))])
        check_clean(self, is_parting_fork, house, list(first), list(second), (0, (0,), (1, 0)))
