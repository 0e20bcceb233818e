"""callsheard/sure.py: [42] to [44] and the interface."""

import itertools
import random
import unittest

from callsheard.alike import alike
from callsheard.errors import Impossible
from callsheard.facts import Facts, fitting_answer
from callsheard.forms import form_of
from callsheard.house import House
from callsheard.logs import log_of
from callsheard.sure import before_answer, form_answer, possible_words, word_answer
from tests.support import (
    all_fitting_orders, check_clean, form_by_definition, some_facts, some_houses, spoil, subsets, word_in,
)
from tests.test_forced import forced_by_definition

IMPOSSIBLE = [
    Facts(["a", "b"], [(0, 1), (1, 0)], []),
    Facts(["a", "b"], [], [((0, 1), "c")]),
    Facts(["a", "b"], [], [((0,), None)]),
    Facts(["a", "b", None], [], [((2,), "a")]),
    Facts(["a", "b"], [(0, 1)], [((0, 1), "a")]),
]


def possible_facts(seed, count):
    """Facts that some order fits, with all orders that fit."""
    for words, pairs, heard in some_facts(seed, count):
        fitting = all_fitting_orders(words, pairs, heard)
        if fitting:
            yield Facts(words, pairs, heard), fitting


def words_under(facts, fitting, rooms):
    words = {word_in(log_of(facts.words(), order), rooms) for order in fitting}
    return sorted(words, key=lambda word: (word is not None, word or ""))


def some_set(dice, rooms):
    return dice.sample(range(rooms), dice.randrange(1, rooms + 1))


class BeforeAnswerTest(unittest.TestCase):
    def test_against_all_orders(self):
        results = []
        for facts, fitting in possible_facts(1051, 250):
            for x, y in itertools.permutations(facts.called(), 2):
                before = [order.index(x) < order.index(y) for order in fitting]
                wanted = "before" if all(before) else "open" if any(before) else "after"
                self.assertEqual(before_answer(facts, x, y), wanted)
                results.append(wanted)
        for kind in ("before", "after", "open"):
            self.assertGreater(results.count(kind), 50)

    def test_some_answers(self):
        facts = Facts(["bell", "horn", "bell"], [], [((0, 1), "bell"), ((1, 2), "horn")])
        self.assertEqual([before_answer(facts, 2, 1), before_answer(facts, 0, 1)], ["before", "after"])
        self.assertEqual(before_answer(facts, 2, 0), "before")
        facts = Facts(["a", "b", "c"], [(0, 1)], [])
        self.assertEqual([before_answer(facts, 0, 2), before_answer(facts, 1, 0)], ["open", "after"])

    def test_no_order_fits(self):
        for facts in IMPOSSIBLE:
            for x, y in ((0, 1), (1, 0)):
                with self.assertRaises(Impossible):
                    before_answer(facts, x, y)


class WordsTest(unittest.TestCase):
    def test_possible_words_against_all_orders(self):
        sizes = set()
        for facts, fitting in possible_facts(1052, 200):
            for rooms in subsets(range(len(facts.words()))):
                if rooms:
                    wanted = words_under(facts, fitting, rooms)
                    self.assertEqual(possible_words(facts, rooms), wanted)
                    self.assertEqual(possible_words(facts, list(rooms)[::-1]), wanted)
                    sizes.add(len(wanted))
        self.assertEqual(sizes, {1, 2, 3})

    def test_answers_against_the_definition(self):
        kinds = set()
        for facts, fitting in possible_facts(1053, 200):
            for rooms in subsets(range(len(facts.words()))):
                if rooms:
                    words = words_under(facts, fitting, rooms)
                    answer = word_answer(facts, list(rooms)[::-1])
                    if len(words) == 1:
                        self.assertEqual(answer, ("sure", words[0]))
                    else:
                        orders = [fitting_answer(facts.with_heard(rooms, word))[1] for word in words[:2]]
                        self.assertEqual(answer, ("open", orders[0], orders[1]))
                        for order, word in zip(orders, words):
                            self.assertIn(order, fitting)
                            self.assertEqual(word_in(log_of(facts.words(), order), rooms), word)
                    kinds.add(answer[0])
        self.assertEqual(kinds, {"sure", "open"})

    def test_sets_that_do_not_hang_together_and_silent_rooms(self):
        facts = Facts(["horn", None, "bell", None], [], [])
        self.assertEqual(possible_words(facts, (1, 3)), [None])
        self.assertEqual(word_answer(facts, [3]), ("sure", None))
        self.assertEqual(possible_words(facts, (3, 2, 1, 0)), ["bell", "horn"])
        self.assertEqual(word_answer(facts, (3, 0, 2)), ("open", (0, 2), (2, 0)))
        self.assertEqual(word_answer(facts, (3, 0)), ("sure", "horn"))

    def test_words_in_alphabetical_order(self):
        facts = Facts(["c", "a", "b", "a"], [(1, 3)], [])
        self.assertEqual(possible_words(facts, (0, 1, 2, 3)), ["a", "b", "c"])
        self.assertEqual(possible_words(facts, (0, 3)), ["a", "c"])
        self.assertEqual(word_answer(facts, (0, 2)), ("open", (0, 1, 2, 3), (2, 0, 1, 3)))

    def test_one_and_eight_rooms(self):
        self.assertEqual(word_answer(Facts([None], [], []), (0,)), ("sure", None))
        self.assertEqual(word_answer(Facts(["a"], [], []), (0,)), ("sure", "a"))
        words = ["h", "g", "f", "e", "d", "c", "b", "a"]
        facts = Facts(words, [], [((0, 1), "g")])
        self.assertEqual(possible_words(facts, range(8)), words[:0:-1])
        self.assertEqual(
            word_answer(facts, range(8)), ("open", (0, 1, 2, 3, 4, 5, 6, 7), (0, 1, 2, 3, 4, 5, 7, 6)),
        )

    def test_no_order_fits(self):
        for facts in IMPOSSIBLE:
            for rooms in ((0,), (1, 0)):
                for function in (possible_words, word_answer):
                    with self.assertRaises(Impossible):
                        function(facts, rooms)
        with self.assertRaises(Impossible):
            possible_words(IMPOSSIBLE[3], (2,))


class FormAnswerTest(unittest.TestCase):
    def test_against_all_orders(self):
        kinds = []
        houses = {rooms: list(some_houses(1054 + rooms, rooms, 12)) for rooms in range(1, 6)}
        dice = random.Random(1055)
        for facts, fitting in possible_facts(1056, 300):
            house = dice.choice(houses[len(facts.words())])
            forms = {order: form_of(house, log_of(facts.words(), order)) for order in fitting}
            answer = form_answer(house, facts)
            kinds.append(answer[0])
            if len(set(forms.values())) == 1:
                self.assertEqual(answer, ("form", forms[fitting[0]]))
            else:
                self.assertEqual(answer[0], "open")
                self.check_open(house, facts, answer, forms)
        self.assertGreater(kinds.count("form"), 20)
        self.assertGreater(kinds.count("open"), 20)

    def check_open(self, house, facts, answer, forms):
        _, first, second = answer
        self.assertEqual(first, fitting_answer(facts)[1])
        self.assertNotEqual(forms[first], forms[second])
        self.assertIs(alike(house, log_of(facts.words(), first), log_of(facts.words(), second)), False)
        turned = [
            fitting_answer(facts.with_pair(x, z)) for z, x in forced_by_definition(house, forms[first])
        ]
        self.assertEqual(second, [order for kind, order, *_ in turned if kind == "order"][0])

    def test_some_answers(self):
        house = House.corridor(3)
        facts = Facts(["bell", "drum", "horn"], [(0, 1), (2, 1)], [])
        self.assertEqual(form_answer(house, facts), ("form", form_of(house, [(0, "bell"), (2, "horn"), (1, "drum")])))
        facts = Facts(["bell", "drum", "horn"], [(0, 1)], [])
        self.assertEqual(form_answer(house, facts), ("open", (0, 1, 2), (0, 2, 1)))
        self.assertEqual(form_answer(House(3, []), facts)[0], "form")
        facts = Facts(["bell", "horn", "bell"], [], [((0, 1), "bell"), ((1, 2), "horn")])
        form = form_of(house, [(2, "bell"), (1, "horn"), (0, "bell")])
        self.assertEqual(form_answer(house, facts), ("form", form))

    def test_one_and_eight_rooms_and_no_called_room(self):
        house = House(1, [])
        self.assertEqual(form_answer(house, Facts([None], [], [])), ("form", ((None, (0,), ()),)))
        self.assertEqual(form_answer(house, Facts(["a"], [], [])), ("form", (("a", (0,), ()),)))
        house = House.full(8)
        facts = Facts(list("abcdefgh"), [(room, room + 1) for room in range(7)], [])
        form = form_by_definition(house, [(room, "abcdefgh"[room]) for room in range(8)])
        self.assertEqual(form_answer(house, facts), ("form", form))
        facts = Facts(list("abcdefgh"), [(room, room + 1) for room in range(6)], [])
        self.assertEqual(form_answer(house, facts), ("open", (0, 1, 2, 3, 4, 5, 6, 7), (7, 0, 1, 2, 3, 4, 5, 6)))

    def test_no_order_fits(self):
        for facts in IMPOSSIBLE:
            for house in (House(len(facts.words()), []), House.full(len(facts.words()))):
                with self.assertRaises(Impossible):
                    form_answer(house, facts)


class CleanTest(unittest.TestCase):
    def test_clean(self):
        facts = Facts(["horn", None, "bell"], [], [((0, 1), "horn")])
        check_clean(self, before_answer, facts, 0, 2)
        check_clean(self, possible_words, facts, [2, 0])
        check_clean(self, word_answer, facts, [2, 1, 0])
        check_clean(self, form_answer, House.corridor(3), facts)
        spoil(possible_words(facts, [1]))
        self.assertEqual(possible_words(facts, [1]), [None])
        self.assertEqual(facts.heard(), [((0, 1), "horn")])
