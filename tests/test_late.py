"""callsheard/late.py: [82] and the interface."""

import random
import unittest

from callsheard.forms import form_of
from callsheard.house import House
from callsheard.late import late_answer, late_runs, with_late
from tests.support import WORDS, check_clean, form_by_definition, form_trials

HOUSE = House.corridor(3)
LOG = [(0, "bell"), (2, "horn"), (1, "drum")]


def inserted(log, call, place):
    changed = list(log)
    changed.insert(place, call)
    return changed


class LateTest(unittest.TestCase):
    def test_with_late(self):
        for place in range(4):
            self.assertEqual(with_late(LOG, (2, "bell"), place), inserted(LOG, (2, "bell"), place))
        self.assertEqual(with_late([], (0, "a"), 0), [(0, "a")])
        self.assertEqual(with_late(LOG, (0, "a"), 0), [(0, "a")] + LOG)
        self.assertEqual(with_late(LOG, (0, "a"), 3), LOG + [(0, "a")])

    def test_against_the_forms_at_each_place(self):
        dice = random.Random(1291)
        kinds, sizes = set(), set()
        for house, log in form_trials(1292):
            call = (dice.randrange(house.rooms), dice.choice(WORDS))
            places = sorted([dice.randrange(len(log) + 1), dice.randrange(len(log) + 1)])
            for low, high in (places, (0, len(log)), (places[0], places[0])):
                forms = {place: form_by_definition(house, inserted(log, call, place)) for place in range(low, high + 1)}
                other = [place for place in sorted(forms) if forms[place] != forms[low]]
                wanted = ("open", low, other[0]) if other else ("sure", forms[low])
                self.assertEqual(late_answer(house, log, call, low, high), wanted)
                runs = late_runs(house, log, call, low, high)
                self.check_runs(runs, forms, low, high)
                kinds.add(wanted[0])
                sizes.add(len(runs))
        self.assertEqual(kinds, {"sure", "open"})
        self.assertLessEqual({1, 2, 3, 4}, sizes)

    def check_runs(self, runs, forms, low, high):
        self.assertEqual((runs[0][0], runs[-1][1]), (low, high))
        for (_, end, form), (start, _, later) in zip(runs, runs[1:]):
            self.assertEqual(start, end + 1)
            self.assertNotEqual(form, later)
        for start, end, form in runs:
            self.assertLessEqual(start, end)
            self.assertTrue(all(forms[place] == form for place in range(start, end + 1)))

    def test_some_late_calls(self):
        forms = [form_of(HOUSE, inserted(LOG, (1, "horn"), place)) for place in range(4)]
        self.assertEqual(late_runs(HOUSE, LOG, (1, "horn"), 0, 3), [(0, 2, forms[0]), (3, 3, forms[3])])
        self.assertEqual(late_answer(HOUSE, LOG, (1, "horn"), 0, 3), ("open", 0, 3))
        self.assertEqual(late_answer(HOUSE, LOG, (1, "horn"), 1, 3), ("open", 1, 3))
        self.assertEqual(late_answer(HOUSE, LOG, (1, "horn"), 0, 2), ("sure", form_of(HOUSE, LOG)))
        self.assertEqual(late_runs(HOUSE, LOG, (1, "horn"), 3, 3), [(3, 3, forms[3])])

    def test_calls_that_change_nothing_by_their_place(self):
        log = [(0, "a"), (1, "b"), (0, "a")]
        house = House.corridor(2)
        runs = late_runs(house, log, (1, "b"), 0, 3)
        self.assertEqual([(start, end) for start, end, _ in runs], [(0, 2), (3, 3)])
        log = [(0, "a"), (0, "b"), (0, "a")]
        house = House(2, [])
        self.assertEqual(late_answer(house, log, (1, "c"), 0, 3), ("sure", (("a", (0,), ()), ("c", (1,), ()))))

    def test_no_calls_and_one_room(self):
        house = House(1, [])
        self.assertEqual(late_answer(house, [], (0, "a"), 0, 0), ("sure", (("a", (0,), ()),)))
        self.assertEqual(late_runs(house, [], (0, "a"), 0, 0), [(0, 0, (("a", (0,), ()),))])
        log = [(0, "b")] * 60
        self.assertEqual(late_answer(house, log, (0, "a"), 0, 60), ("open", 0, 60))
        self.assertEqual(late_answer(house, log, (0, "a"), 0, 59), ("sure", (("b", (0,), ()),)))
        self.assertEqual(late_answer(house, log, (0, "b"), 0, 60), ("sure", (("b", (0,), ()),)))
        runs = late_runs(house, log, (0, "a"), 0, 60)
        self.assertEqual(runs, [(0, 59, (("b", (0,), ()),)), (60, 60, (("a", (0,), ()),))])

    def test_twelve_rooms(self):
        house = House.full(12)
        log = [(room, "abcdefghijkl"[room]) for room in range(12)]
        runs = late_runs(house, log[:11], (11, "z"), 0, 11)
        self.assertEqual([(start, end) for start, end, _ in runs], [(place, place) for place in range(12)])
        self.assertEqual(late_runs(house, log * 5, (11, "z"), 0, 60)[-1][2], form_of(house, log + [(11, "z")]))

    def test_clean(self):
        check_clean(self, with_late, list(LOG), (1, "horn"), 1)
        check_clean(self, late_answer, HOUSE, list(LOG), (1, "horn"), 0, 3)
        check_clean(self, late_runs, HOUSE, list(LOG), (1, "horn"), 0, 3)
