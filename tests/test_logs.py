"""callsheard/logs.py: [9] and the interface."""

import random
import unittest

from callsheard.house import House
from callsheard.logs import last_calls, log_of, order_of, top_room, word_of, words_of
from tests.support import a_log, by_definition_last_calls, check_clean, subsets, top_of, word_in

LOG = [(0, "bell"), (2, "horn"), (0, "drum"), (1, "bell"), (2, "horn")]


class LogsTest(unittest.TestCase):
    def test_example_of_the_document(self):
        log = [(0, "bell"), (2, "horn"), (1, "drum")]
        self.assertEqual(word_of(log, (0, 1, 2)), "drum")
        self.assertEqual(top_room(log, (0, 1, 2)), 1)

    def test_last_calls(self):
        self.assertEqual(last_calls(LOG), [(0, "drum"), (1, "bell"), (2, "horn")])
        self.assertEqual(last_calls([]), [])
        self.assertEqual(last_calls([(3, "a"), (3, "b"), (3, "a")]), [(3, "a")])
        self.assertEqual(last_calls([(1, "a"), (0, "a")]), [(1, "a"), (0, "a")])

    def test_order_of(self):
        self.assertEqual(order_of(LOG), (0, 1, 2))
        self.assertEqual(order_of([(2, "a"), (0, "b"), (1, "c"), (0, "d")]), (2, 1, 0))
        self.assertEqual(order_of([]), ())

    def test_words_of(self):
        self.assertEqual(words_of(House(4, []), LOG), ["drum", "bell", "horn", None])
        self.assertEqual(words_of(House(1, []), []), [None])
        self.assertEqual(words_of(House.full(12), []), [None] * 12)
        self.assertEqual(words_of(House.full(12), [(11, "a")]), [None] * 11 + ["a"])

    def test_top_room_and_word_of(self):
        self.assertEqual((top_room(LOG, [0, 1]), word_of(LOG, [0, 1])), (1, "bell"))
        self.assertEqual((top_room(LOG, (0,)), word_of(LOG, (0,))), (0, "drum"))
        self.assertEqual((top_room(LOG, (2, 1)), word_of(LOG, (2, 1))), (2, "horn"))
        self.assertEqual((top_room(LOG, (3, 0)), word_of(LOG, (3, 0))), (0, "drum"))

    def test_none(self):
        for function in (top_room, word_of):
            self.assertIsNone(function(LOG, [3]))
            self.assertIsNone(function(LOG, []))
            self.assertIsNone(function(LOG, ()))
            self.assertIsNone(function([], [0, 1]))
            self.assertIsNone(function([], []))

    def test_log_of(self):
        self.assertEqual(log_of(["bell", None, "horn"], (2, 0)), [(2, "horn"), (0, "bell")])
        self.assertEqual(log_of(["bell", None, "horn"], (0,)), [(0, "bell")])
        self.assertEqual(log_of([None], ()), [])

    def test_against_the_definitions(self):
        dice = random.Random(6)
        for calls in list(range(12)) * 4 + [60] * 10:
            house = House(5, [])
            log = a_log(dice, 5, calls)
            lasts = by_definition_last_calls(log)
            self.assertEqual(last_calls(log), lasts)
            self.assertEqual(order_of(log), tuple(room for room, _ in lasts))
            self.assertEqual(words_of(house, log), [dict(lasts).get(room) for room in range(5)])
            self.assertEqual(log_of(words_of(house, log), order_of(log)), lasts)
            for rooms in subsets(range(5)):
                self.assertEqual(top_room(log, rooms[::-1]), top_of(log, rooms))
                self.assertEqual(word_of(log, list(rooms)), word_in(log, rooms))

    def test_lists(self):
        check_clean(self, last_calls, list(LOG))
        check_clean(self, last_calls, [(1, "a"), (0, "b")])
        check_clean(self, order_of, list(LOG))
        check_clean(self, words_of, House(4, []), list(LOG))
        check_clean(self, top_room, list(LOG), [0, 3])
        check_clean(self, word_of, list(LOG), [0, 3])
        check_clean(self, log_of, ["bell", None, "horn"], (2, 0))
