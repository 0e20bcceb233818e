"""callsheard/overlays.py: [62] to [64] and the interface."""

import itertools
import random
import unittest

from callsheard.alike import is_parting_path, parting_path
from callsheard.forms import form_of, plain_log, silent_form
from callsheard.house import House
from callsheard.overlays import hides, order_matters, overlay
from tests.support import a_log, check_clean, every_house, form_by_definition, paths_of, some_houses, word_in

HOUSE = House.corridor(3)


def overlay_trials(seed, count):
    """Houses with some logs each; now and then two logs have equal words or equal rooms."""
    dice = random.Random(seed)
    houses = itertools.chain(every_house(1), every_house(2), every_house(3), some_houses(seed, 4, 20))
    for house in itertools.chain(houses, some_houses(seed + 1, 5, 12)):
        for _ in range(5):
            words = dice.choice([["a"], ["a", "b"], ["a", "b", "c"]])
            yield house, [a_log(dice, house.rooms, dice.randrange(2 * house.rooms), words) for _ in range(count)]


def called(log):
    return {room for room, _ in log}


class OverlayTest(unittest.TestCase):
    def test_the_form_of_logs_one_after_the_other(self):
        for house, logs in overlay_trials(1111, 3):
            forms = [form_by_definition(house, log) for log in logs]
            for count in range(4):
                whole = [call for log in logs[:count] for call in log]
                self.assertEqual(overlay(house, *forms[:count]), form_by_definition(house, whole))

    def test_no_forms_and_one_form(self):
        for house, (log,) in overlay_trials(1112, 1):
            form = form_of(house, log)
            silent = silent_form(house)
            self.assertEqual(overlay(house), silent)
            for forms in ((form,), (form, form), (silent, form), (form, silent), (silent, form, silent, form)):
                self.assertEqual(overlay(house, *forms), form)

    def test_groupings(self):
        for house, logs in overlay_trials(1113, 3):
            f, g, h = [form_of(house, log) for log in logs]
            self.assertEqual(overlay(house, f, g, h), overlay(house, f, overlay(house, g, h)))
            self.assertEqual(overlay(house, f, g, h), overlay(house, overlay(house, f, g), h))
            self.assertEqual(overlay(house, f, g, f), overlay(house, g, f))

    def test_some_overlays(self):
        first, second = form_of(HOUSE, [(0, "bell"), (1, "horn")]), form_of(HOUSE, [(1, "drum"), (2, "bell")])
        self.assertEqual(overlay(HOUSE, first, second), (("bell", (2,), (("drum", (1,), (("bell", (0,), ()),)),)),))
        self.assertEqual(overlay(HOUSE, second, first), (("horn", (1,), (("bell", (0,), ()), ("bell", (2,), ()))),))

    def test_twelve_rooms_and_many_forms(self):
        dice = random.Random(1114)
        for house in (House.full(12), House.ring(12), House(12, [])):
            logs = [a_log(dice, 12, 60, ["a", "b", "c"]) for _ in range(7)]
            whole = [call for log in logs for call in log]
            self.assertEqual(overlay(house, *[form_of(house, log) for log in logs]), form_of(house, whole))


class HidesTest(unittest.TestCase):
    def test_against_overlays(self):
        results = set()
        for house, logs in overlay_trials(1115, 2):
            f, g = [form_of(house, log) for log in logs]
            wanted = overlay(house, f, g) == g
            self.assertIs(hides(house, f, g), wanted)
            self.assertIs(wanted, called(logs[0]) <= called(logs[1]))
            results.add(wanted)
        self.assertEqual(results, {True, False})

    def test_some_forms(self):
        silent, one = silent_form(HOUSE), form_of(HOUSE, [(1, "a")])
        both, other = form_of(HOUSE, [(0, "b"), (1, "c")]), form_of(HOUSE, [(0, "a")])
        for first, second, wanted in (
            (silent, silent, True), (silent, one, True), (one, silent, False), (one, one, True), (one, both, True),
            (both, one, False), (one, other, False), (other, one, False), (other, both, True),
        ):
            self.assertIs(hides(HOUSE, first, second), wanted)


class OrderMattersTest(unittest.TestCase):
    def test_against_overlays_and_paths(self):
        lengths = set()
        for house, logs in overlay_trials(1116, 2):
            f, g = [form_of(house, log) for log in logs]
            early, late = [plain_log(form) for form in (f, g)]
            parting = [p for p in paths_of(house) if word_in(early + late, p) != word_in(late + early, p)]
            found = order_matters(house, f, g)
            self.assertEqual(found, parting[0] if parting else None)
            self.assertIs(found is not None, overlay(house, f, g) != overlay(house, g, f))
            unlike = [
                p for p in paths_of(house)
                if None not in (word_in(early, p), word_in(late, p)) and word_in(early, p) != word_in(late, p)
            ]
            self.assertIs(found is not None, bool(unlike))
            lengths.add(len(found or ()))
        self.assertLessEqual({0, 1, 2, 3}, lengths)

    def test_some_forms(self):
        bell, drum = form_of(HOUSE, [(0, "bell")]), form_of(HOUSE, [(2, "drum")])
        self.assertEqual(order_matters(HOUSE, bell, drum), (0, 1, 2))
        self.assertEqual(order_matters(HOUSE, drum, bell), (0, 1, 2))
        self.assertIsNone(order_matters(HOUSE, bell, bell))
        self.assertIsNone(order_matters(HOUSE, bell, silent_form(HOUSE)))
        house = House(3, [(0, 1)])
        self.assertIsNone(order_matters(house, form_of(house, [(0, "bell")]), form_of(house, [(2, "drum")])))
        self.assertEqual(order_matters(HOUSE, bell, form_of(HOUSE, [(0, "horn")])), (0,))
        house = House.ring(12)
        first, second = [(9, "a")], [(3, "b")]
        wanted = parting_path(house, first + second, second + first)
        self.assertEqual(order_matters(house, form_of(house, first), form_of(house, second)), wanted)
        self.assertTrue(is_parting_path(house, first + second, second + first, wanted))

    def test_clean(self):
        first, second = form_of(HOUSE, [(0, "bell"), (1, "horn")]), form_of(HOUSE, [(1, "drum"), (2, "bell")])
        check_clean(self, overlay, HOUSE, first, second)
        check_clean(self, hides, HOUSE, first, second)
        check_clean(self, order_matters, HOUSE, first, second)
