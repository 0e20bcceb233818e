"""callsheard/facts.py: [38] to [41] and the interface."""

import itertools
import math
import random
import unittest

from callsheard.errors import BadFact, OutOfRange
from callsheard.facts import Facts, count_fitting, fitting_answer, is_stuck, kth_fitting, order_fits
from callsheard.forced import forced_pairs
from tests.support import (
    all_fitting_orders, blocks_in_order, check_clean, order_trials, some_facts, spoil, subsets, word_in,
)

WORDS = ["bell", "horn", "bell"]
HEARD = [((0, 1), "bell"), ((1, 2), "horn")]


def called_in(words, rooms):
    return {room for room in rooms if words[room] is not None}


def is_free(words, pairs, heard, room, rooms):
    if any(y == room and z in rooms for y, z in pairs):
        return False
    return all(
        words[room] == word for members, word in heard if room in members and called_in(words, members) <= set(rooms)
    )


def stuck_sets(words, pairs, heard):
    called = sorted(called_in(words, range(len(words))))
    return [
        rooms for rooms in subsets(called)
        if rooms and not any(is_free(words, pairs, heard, room, rooms) for room in rooms)
    ]


def answer_by_definition(words, pairs, heard):
    for index, (members, word) in enumerate(heard):
        if (word is None) == bool(called_in(words, members)):
            return ("silence", index)
    left = called_in(words, range(len(words)))
    order = ()
    while any(is_free(words, pairs, heard, room, left) for room in left):
        room = max(room for room in left if is_free(words, pairs, heard, room, left))
        left -= {room}
        order = (room,) + order
    if not left:
        return ("order", order)
    reasons = ()
    for room in sorted(left):
        later = sorted(z for y, z in pairs if y == room and z in left)
        entries = [
            index for index, (members, word) in enumerate(heard)
            if room in members and called_in(words, members) <= left and word != words[room]
        ]
        reasons += (("pair", later[0]) if later else ("heard", entries[0]),)
    return ("stuck", tuple(sorted(left)), reasons)


class BadFactTest(unittest.TestCase):
    def check(self, words, pairs, heard, part, place):
        with self.assertRaises(BadFact) as caught:
            Facts(words, pairs, heard)
        self.assertEqual((caught.exception.part, caught.exception.place), (part, place), (words, pairs, heard))

    def test_number_of_rooms(self):
        for words in ([], ["a"] * 9, [None] * 9, [None] * 12):
            self.check(words, [], [], "words", -1)
        for words in (["a"], [None], ["a"] * 8, [None] * 8):
            self.assertEqual(Facts(words, [], []).words(), words)

    def test_words(self):
        for bad in ("", "abcdefghi", "A", "a1", "a b", "-", "?", " a", "a\n", "bellBell"):
            self.check([bad], [], [], "words", 0)
            self.check(["a", None, bad], [], [], "words", 2)
            self.check(["a", bad, bad], [], [], "words", 1)
        self.assertEqual(Facts(["abcdefgh", "z"], [], []).words(), ["abcdefgh", "z"])

    def test_pairs(self):
        words = ["a", None, "b", "a"]
        for bad in ((0, 0), (1, 0), (0, 1), (1, 1), (0, 4), (4, 0), (-1, 0), (0, -1), (-2, 3), (99, 98)):
            self.check(words, [bad], [], "pairs", 0)
            self.check(words, [(0, 2), (3, 2), bad, bad], [], "pairs", 2)
        pairs = [(0, 2), (2, 0), (0, 2), (3, 0)]
        self.assertEqual(Facts(words, pairs, []).pairs(), pairs)

    def test_heard(self):
        words = ["a", None, "b", "a"]
        for rooms in ((), (4,), (0, 4), (-1,), (-1, 0), (1, 0), (0, 0), (0, 2, 2), (0, 2, 1), (3, 99)):
            self.check(words, [], [(rooms, "a")], "heard", 0)
            self.check(words, [], [((0,), "a"), (rooms, None)], "heard", 1)
        for word in ("", "abcdefghi", "B", "a b", "?", "-"):
            self.check(words, [], [((0,), "a"), ((0, 1), None), ((2,), word), ((), "a")], "heard", 2)

    def test_entries_that_no_order_can_meet_break_no_rule(self):
        heard = [((0, 1), None), ((1,), "b"), ((0,), "z"), ((0, 1, 2), "z"), ((0,), "z")]
        facts = Facts(["a", None, "b"], [(0, 2), (2, 0)], heard)
        self.assertEqual((facts.pairs(), facts.heard()), ([(0, 2), (2, 0)], heard))

    def test_two_rules_at_once(self):
        self.check(["A"] * 9, [(0, 0)], [((), "a")], "words", -1)
        self.check([], [(0, 0)], [((), "a")], "words", -1)
        self.check(["a", "A"], [(0, 0)], [((), "a")], "words", 1)
        self.check(["A", "a"], [], [((), "a")], "words", 0)
        self.check(["a", "b"], [(0, 1), (0, 0)], [((), "a")], "pairs", 1)
        self.check(["a", "b"], [(2, 0), (0, 0)], [], "pairs", 0)
        self.check(["a", "b"], [(0, 1)], [((0,), "b"), ((1,), "B"), ((), "a")], "heard", 1)
        self.check(["a", "b"], [], [((1, 0), "B")], "heard", 0)

    def test_with_pair(self):
        facts = Facts(["a", None, "b"], [(0, 2), (0, 2)], [])
        for before, after in ((0, 0), (0, 1), (1, 0), (3, 0), (0, -1)):
            with self.assertRaises(BadFact) as caught:
                facts.with_pair(before, after)
            self.assertEqual((caught.exception.part, caught.exception.place), ("pairs", 2))
        with self.assertRaises(BadFact) as caught:
            Facts(["a", None, "b"], [], []).with_pair(1, 2)
        self.assertEqual((caught.exception.part, caught.exception.place), ("pairs", 0))

    def test_with_heard(self):
        facts = Facts(["a", None, "b"], [(0, 2)], [((0,), "a"), ((0,), "a"), ((0, 2), "b")])
        for rooms, word in (((), "a"), ((2, 0), "a"), ((0, 0), "a"), ((3,), "a"), ((-1, 0), "a"), ((0,), "A")):
            with self.assertRaises(BadFact) as caught:
                facts.with_heard(rooms, word)
            self.assertEqual((caught.exception.part, caught.exception.place), ("heard", 3))


class FactsTest(unittest.TestCase):
    def test_the_lists_as_they_were_passed(self):
        for words, pairs, heard in some_facts(1041, 60):
            facts = Facts(list(words), list(pairs), list(heard))
            self.assertEqual((facts.words(), facts.pairs(), facts.heard()), (words, pairs, heard))
            self.assertEqual(facts.called(), sorted(called_in(words, range(len(words)))))

    def test_called(self):
        self.assertEqual(Facts([None], [], []).called(), [])
        self.assertEqual(Facts([None, "a", None, "a"], [], []).called(), [1, 3])

    def test_further_entries(self):
        facts = Facts(WORDS, [(0, 1)], HEARD)
        more = facts.with_pair(2, 1).with_heard((0, 2), None).with_pair(0, 1)
        self.assertEqual((more.words(), more.pairs()), (WORDS, [(0, 1), (2, 1), (0, 1)]))
        self.assertEqual(more.heard(), HEARD + [((0, 2), None)])
        self.assertEqual((facts.words(), facts.pairs(), facts.heard()), (WORDS, [(0, 1)], HEARD))
        self.assertIs(type(more), Facts)

    def test_lists_that_change(self):
        words, pairs, heard = list(WORDS), [(0, 1)], list(HEARD)
        facts = Facts(words, pairs, heard)
        for passed in (words, pairs, heard):
            spoil(passed)
        for returned in (facts.words(), facts.pairs(), facts.heard(), facts.called()):
            spoil(returned)
        more = facts.with_pair(2, 0)
        for returned in (more.words(), more.pairs(), more.heard()):
            spoil(returned)
        self.assertEqual((facts.words(), facts.pairs(), facts.heard()), (WORDS, [(0, 1)], HEARD))
        self.assertEqual(facts.called(), [0, 1, 2])
        self.assertEqual(fitting_answer(facts), ("stuck", (0, 1, 2), (("pair", 1), ("heard", 0), ("heard", 1))))

    def test_clean(self):
        facts = Facts(WORDS, [], HEARD)
        stuck = Facts(WORDS, [(0, 1)], HEARD)
        check_clean(self, order_fits, facts, (2, 1, 0))
        check_clean(self, is_stuck, stuck, [1, 0, 2])
        check_clean(self, fitting_answer, facts)
        check_clean(self, fitting_answer, stuck)
        check_clean(self, count_fitting, facts)
        check_clean(self, kth_fitting, facts, 0)


class OrderFitsTest(unittest.TestCase):
    def test_against_the_definition(self):
        results = set()
        for words, pairs, heard in some_facts(1042, 250):
            facts = Facts(words, pairs, heard)
            fitting = all_fitting_orders(words, pairs, heard)
            for order in itertools.permutations(facts.called()):
                self.assertIs(order_fits(facts, order), order in fitting)
                results.add(order in fitting)
        self.assertEqual(results, {True, False})

    def test_tuples_that_are_no_orders_of_the_facts(self):
        facts = Facts(["a", None, "b"], [(0, 2)], [])
        self.assertIs(order_fits(facts, (0, 2)), True)
        for order in ((), (0,), (2,), (2, 0), (0, 1, 2), (0, 0, 2), (0, 2, 2), (0, 2, 3), (-3, 2), (0, -1), (0, 99)):
            self.assertIs(order_fits(facts, order), False, order)

    def test_silent_facts(self):
        self.assertIs(order_fits(Facts([None, None], [], [((0, 1), None)]), ()), True)
        self.assertIs(order_fits(Facts([None, None], [], [((0, 1), "a")]), ()), False)
        self.assertIs(order_fits(Facts([None, None], [], []), (0,)), False)


class FittingAnswerTest(unittest.TestCase):
    def test_examples_of_the_document(self):
        facts = Facts(WORDS, [], HEARD)
        self.assertEqual(fitting_answer(facts), ("order", (2, 1, 0)))
        self.assertEqual(fitting_answer(facts.with_pair(0, 1)), (
            "stuck", (0, 1, 2), (("pair", 1), ("heard", 0), ("heard", 1)),
        ))

    def test_against_the_definition(self):
        results = []
        for words, pairs, heard in some_facts(1043, 700):
            facts = Facts(words, pairs, heard)
            answer = fitting_answer(facts)
            self.assertEqual(answer, answer_by_definition(words, pairs, heard))
            results.append(answer[0])
        for kind in ("order", "silence", "stuck"):
            self.assertGreater(results.count(kind), 20)

    def test_against_all_orders(self):
        for words, pairs, heard in some_facts(1044, 500):
            facts = Facts(words, pairs, heard)
            answer = fitting_answer(facts)
            fitting = all_fitting_orders(words, pairs, heard)
            if answer[0] == "order":
                self.assertIn(answer[1], fitting)
                self.assertEqual(stuck_sets(words, pairs, heard), [])
            else:
                self.assertEqual(fitting, [])
            if answer[0] == "stuck":
                stuck = stuck_sets(words, pairs, heard)
                self.assertIn(answer[1], stuck)
                self.assertTrue(all(set(rooms) <= set(answer[1]) for rooms in stuck))

    def test_the_greatest_free_room_is_the_last(self):
        self.assertEqual(fitting_answer(Facts(["a"] * 8, [], [])), ("order", (0, 1, 2, 3, 4, 5, 6, 7)))
        self.assertEqual(fitting_answer(Facts(["a"] * 4, [(3, 0)], [])), ("order", (3, 0, 1, 2)))
        self.assertEqual(fitting_answer(Facts(["a"] * 4, [(3, 2)], [])), ("order", (0, 1, 3, 2)))

    def test_silence(self):
        words = ["a", None, None, "b"]
        for heard, index in (
            ([((1,), "a")], 0),
            ([((0,), None)], 0),
            ([((1, 2), None), ((0, 1), None), ((1, 2), "b")], 1),
            ([((0, 1, 2), "a"), ((0,), "z"), ((1, 2), "b"), ((0, 3), None)], 2),
        ):
            self.assertEqual(fitting_answer(Facts(words, [(0, 3), (3, 0)], heard)), ("silence", index))
        self.assertEqual(fitting_answer(Facts(words, [], [((1, 2), None)])), ("order", (0, 3)))

    def test_reasons(self):
        words = ["a", "b", "a", "b"]
        # The least room of all pairs, also if its pair stands later; a pair goes before a heard entry.
        facts = Facts(words, [(0, 3), (0, 1), (3, 0), (1, 0), (1, 3)], [((0,), "b")])
        self.assertEqual(fitting_answer(facts), ("stuck", (0, 1, 3), (("pair", 1), ("pair", 0), ("pair", 0))))
        # An entry counts only if all its called rooms are left; silent rooms in it do not matter.
        facts = Facts(["a", "b", None], [], [((0, 1), "z"), ((0, 2), "c"), ((1,), "z"), ((1,), "z")])
        self.assertEqual(fitting_answer(facts), ("stuck", (0, 1), (("heard", 0), ("heard", 0))))
        facts = Facts(["a", "b", None], [(0, 1)], [((1, 2), "b"), ((0, 1), "b"), ((0, 2), "c")])
        self.assertEqual(fitting_answer(facts), ("stuck", (0,), (("heard", 2),)))

    def test_one_room_and_no_called_room(self):
        self.assertEqual(fitting_answer(Facts([None], [], [])), ("order", ()))
        self.assertEqual(fitting_answer(Facts(["a"], [], [((0,), "a")])), ("order", (0,)))
        self.assertEqual(fitting_answer(Facts(["a"], [], [((0,), "b")])), ("stuck", (0,), (("heard", 0),)))
        self.assertEqual(fitting_answer(Facts([None] * 8, [], [((2, 5), None)])), ("order", ()))

    def test_as_many_entries_as_there_can_be(self):
        dice = random.Random(1045)
        kinds = set()
        for _ in range(60):
            words = [dice.choice(["a", "b", "c"]) for _ in range(8)]
            order = dice.sample(range(8), 8)
            log = [(room, words[room]) for room in order]
            pairs = [tuple(sorted(dice.sample(range(8), 2), key=order.index)) for _ in range(30)]
            pairs[7] = pairs[3]
            sets = [tuple(sorted(dice.sample(range(8), dice.randrange(1, 9)))) for _ in range(12)]
            heard = [(rooms, word_in(log, rooms)) for rooms in sets]
            heard[5] = heard[2]
            if dice.random() < 0.5:
                heard[11] = (heard[11][0], "d")
            facts = Facts(words, pairs, heard)
            answer = fitting_answer(facts)
            self.assertEqual(answer, answer_by_definition(words, pairs, heard))
            kinds.add(answer[0])
            if answer[0] == "order":
                self.assertIs(order_fits(facts, answer[1]), True)
        self.assertEqual(kinds, {"order", "stuck"})


class IsStuckTest(unittest.TestCase):
    def test_against_the_definition(self):
        results = []
        for words, pairs, heard in some_facts(1046, 500):
            facts = Facts(words, pairs, heard)
            stuck = stuck_sets(words, pairs, heard)
            for rooms in subsets(facts.called()):
                self.assertIs(is_stuck(facts, rooms), rooms in stuck)
                self.assertIs(is_stuck(facts, list(rooms)[::-1]), rooms in stuck)
                results.append(rooms in stuck)
        self.assertGreater(results.count(True), 50)

    def test_whatever_the_answer_is(self):
        # The answer is about silence, but the pairs alone make a stuck set.
        facts = Facts(["a", "b", "c", None], [(0, 1), (1, 0)], [((3,), "a"), ((2,), None)])
        self.assertEqual(fitting_answer(facts), ("silence", 0))
        for rooms, wanted in (((0, 1), True), ((2,), True), ((1, 2, 0), True), ((0,), False), ((1, 2), False)):
            self.assertIs(is_stuck(facts, rooms), wanted, rooms)

    def test_no_rooms(self):
        for words in ([None], ["a", "b"]):
            self.assertIs(is_stuck(Facts(words, [], []), ()), False)
            self.assertIs(is_stuck(Facts(words, [], []), []), False)


class CountedTest(unittest.TestCase):
    def check_range(self, facts, count):
        for k in (-1, -count, -count - 1, count, count + 1, 10 ** 9):
            if not 0 <= k < count:
                with self.assertRaises(OutOfRange) as caught:
                    kth_fitting(facts, k)
                self.assertEqual(caught.exception.count, count)

    def test_against_all_orders(self):
        counts = set()
        for words, pairs, heard in some_facts(1047, 300):
            facts = Facts(words, pairs, heard)
            fitting = all_fitting_orders(words, pairs, heard)
            self.assertEqual(count_fitting(facts), len(fitting))
            self.assertEqual([kth_fitting(facts, k) for k in range(len(fitting))], fitting)
            self.check_range(facts, len(fitting))
            counts.add(len(fitting))
        self.assertLessEqual({0, 1, 2, 3}, counts)
        self.assertGreater(max(counts), 20)

    def test_eight_rooms(self):
        facts = Facts(["a"] * 8, [], [((0, 1, 2, 3, 4, 5, 6, 7), "a")] * 12)
        self.assertEqual(count_fitting(facts), math.factorial(8))
        self.assertEqual(kth_fitting(facts, 0), (0, 1, 2, 3, 4, 5, 6, 7))
        self.assertEqual(kth_fitting(facts, 40319), (7, 6, 5, 4, 3, 2, 1, 0))
        self.check_range(facts, 40320)
        dice = random.Random(1048)
        for _ in range(4):
            words = [dice.choice(["a", "b", "c"]) for _ in range(8)]
            order = dice.sample(range(8), 8)
            log = [(room, words[room]) for room in order]
            pairs = [tuple(sorted(dice.sample(range(8), 2), key=order.index)) for _ in range(2)]
            sets = [tuple(sorted(dice.sample(range(8), dice.randrange(2, 6)))) for _ in range(3)]
            heard = [(rooms, word_in(log, rooms)) for rooms in sets]
            facts = Facts(words, pairs, heard)
            fitting = all_fitting_orders(words, pairs, heard)
            self.assertEqual(count_fitting(facts), len(fitting))
            self.assertIn(tuple(order), fitting)
            for k in sorted({0, len(fitting) // 2, len(fitting) - 1}):
                self.assertEqual(kth_fitting(facts, k), fitting[k])

    def test_no_order_and_one_order(self):
        for facts in (
            Facts([None, "a"], [], [((0,), "a")]), Facts(["a"], [], [((0,), None)]), Facts(["a"], [], [((0,), "b")]),
            Facts(["a", "a"], [(0, 1), (1, 0)], []),
        ):
            self.assertEqual(count_fitting(facts), 0)
            self.check_range(facts, 0)
            with self.assertRaises(OutOfRange) as caught:
                kth_fitting(facts, 0)
            self.assertEqual(caught.exception.count, 0)
        for facts, order in ((Facts([None] * 3, [], []), ()), (Facts([None, "a"], [], []), (1,))):
            self.assertEqual((count_fitting(facts), kth_fitting(facts, 0)), (1, order))
            self.check_range(facts, 1)

    def test_heard_sets_with_silent_rooms(self):
        facts = Facts(["a", None, "b"], [], [((0, 1, 2), "a"), ((1,), None)])
        self.assertEqual((count_fitting(facts), kth_fitting(facts, 0)), (1, (2, 0)))

    def test_facts_made_of_a_form(self):
        for house, form, orders in order_trials():
            by_room = {room: word for word, tops, _ in blocks_in_order(form) for room in tops}
            facts = Facts([by_room[room] for room in range(house.rooms)], forced_pairs(house, form), [])
            self.assertEqual(count_fitting(facts), len(orders))
            for k in sorted({0, len(orders) // 2, len(orders) - 1}):
                self.assertEqual(kth_fitting(facts, k), orders[k])
            self.assertIn(fitting_answer(facts)[1], orders)
