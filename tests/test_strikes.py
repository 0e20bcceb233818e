"""callsheard/strikes.py: [80], [81] with its example, and the interface."""

import itertools
import random
import unittest

from callsheard.forced import forced_pairs
from callsheard.forms import form_of, silent_form, words_by_form
from callsheard.formtext import parse_form
from callsheard.house import House
from callsheard.strikes import strike_reasons, strikes
from tests.support import a_log, check_clean, every_house, some_houses, subsets

HOUSE = House.corridor(2)
LOG = [(0, "bell"), (1, "horn"), (0, "bell")]
FORM = parse_form("horn[1](bell[0])")


def without(log, indexes):
    return [call for index, call in enumerate(log) if index not in indexes]


def least_by_definition(house, log, form):
    """The set of indexes that works and lies in every one that works, or None if none works."""
    working = [set(struck) for struck in subsets(range(len(log))) if form_of(house, without(log, struck)) == form]
    if not working:
        return None
    least = [struck for struck in working if all(struck <= other for other in working)]
    return sorted(least[0])


def reasons_by_definition(house, log, form, struck):
    words = words_by_form(form)
    left = {room: index for index, (room, _) in enumerate(log) if index not in struck}
    reasons = []
    for index in struck:
        z, word = log[index]
        if words[z] is None or words[z] != word:
            reasons.append((index, ("word",)))
        else:
            late = [x for before, x in forced_pairs(house, form) if before == z and left[x] < index]
            reasons.append((index, ("late", min(late))))
    return reasons


def strike_trials(seed):
    """Houses with a log and a form each; the log mostly holds calls that give the form, with others between them."""
    dice = random.Random(seed)
    houses = itertools.chain(every_house(1), every_house(2), every_house(3), some_houses(seed, 4, 40))
    for house in houses:
        for _ in range(4):
            words = dice.choice([["bell"], ["bell", "drum"], ["bell", "drum", "horn"]])
            wish = a_log(dice, house.rooms, dice.randrange(house.rooms + 2), words)
            log = list(wish)
            for _ in range(dice.randrange(5)):
                log.insert(dice.randrange(len(log) + 1), (dice.randrange(house.rooms), dice.choice(words)))
            if dice.random() < 0.2:
                dice.shuffle(log)
            yield house, log, form_of(house, wish)


class StrikesTest(unittest.TestCase):
    def test_against_all_sets_of_indexes(self):
        sizes, kinds = set(), set()
        for house, log, form in strike_trials(1281):
            wanted = least_by_definition(house, log, form)
            self.assertEqual(strikes(house, log, form), wanted)
            if wanted is None:
                self.assertIsNone(strike_reasons(house, log, form))
                sizes.add(None)
            else:
                reasons = reasons_by_definition(house, log, form, wanted)
                self.assertEqual(strike_reasons(house, log, form), reasons)
                sizes.add(len(wanted))
                kinds |= {reason[0] for _, reason in reasons}
        self.assertLessEqual({None, 0, 1, 2, 3, 4}, sizes)
        self.assertEqual(kinds, {"word", "late"})

    def test_example_of_the_document(self):
        self.assertEqual(strikes(HOUSE, LOG, FORM), [2])
        self.assertEqual(strike_reasons(HOUSE, LOG, FORM), [(2, ("late", 1))])

    def test_some_logs(self):
        for log, indexes, reasons in (
            ([(0, "bell"), (1, "horn")], [], []),
            ([(1, "horn"), (0, "bell")], None, None),
            ([(1, "horn"), (0, "bell"), (1, "horn")], [], []),
            ([(0, "bell")], None, None),
            ([], None, None),
            ([(0, "bell"), (1, "horn"), (0, "bell"), (1, "bell")], [2, 3], [(2, ("late", 1)), (3, ("word",))]),
            ([(0, "bell"), (0, "drum"), (1, "horn")], [1], [(1, ("word",))]),
            ([(0, "drum"), (0, "bell"), (1, "drum"), (1, "horn"), (0, "horn")], [4], [(4, ("word",))]),
        ):
            self.assertEqual(strikes(HOUSE, log, FORM), indexes)
            self.assertEqual(strike_reasons(HOUSE, log, FORM), reasons)

    def test_one_strike_makes_the_next_one_needed(self):
        house = House.corridor(3)
        form = form_of(house, [(0, "a"), (1, "b"), (2, "c")])
        log = [(0, "a"), (1, "b"), (0, "a"), (2, "c"), (0, "a"), (1, "b"), (0, "a")]
        self.assertEqual(strikes(house, log, form), [2, 4, 5, 6])
        self.assertEqual(strike_reasons(house, log, form), [
            (2, ("late", 1)), (4, ("late", 1)), (5, ("late", 2)), (6, ("late", 1)),
        ])

    def test_a_log_that_has_the_form_already(self):
        for house, log, _ in strike_trials(1282):
            form = form_of(house, log)
            self.assertEqual((strikes(house, log, form), strike_reasons(house, log, form)), ([], []))

    def test_the_silent_form(self):
        for house, log, _ in strike_trials(1283):
            every = list(range(len(log)))
            self.assertEqual(strikes(house, log, silent_form(house)), every)
            self.assertEqual(strike_reasons(house, log, silent_form(house)), [(index, ("word",)) for index in every])

    def test_sixty_calls_and_twelve_rooms(self):
        dice = random.Random(1284)
        answers = set()
        for house in some_houses(1285, 12, 40):
            log = a_log(dice, 12, 60, ["a", "b"])
            struck = sorted(dice.sample(range(60), dice.choice([0, 3, 10, 30])))
            form = form_of(house, without(log, struck))
            found = strikes(house, log, form)
            self.assertLessEqual(set(found), set(struck))
            self.assertEqual(form_of(house, without(log, found)), form)
            self.assertEqual(strike_reasons(house, log, form), reasons_by_definition(house, log, form, found))
            for index in found:
                self.assertNotEqual(form_of(house, without(log, [i for i in found if i != index])), form)
            answers.add(len(found) > 0)
        self.assertEqual(answers, {True, False})
        house = House.full(12)
        order = [(room, "abcdefghijkl"[room]) for room in range(12)]
        log = order * 5
        form = form_of(house, order[::-1])
        self.assertIsNone(strikes(house, order * 2, form))
        found = strikes(house, order * 12, form)
        self.assertEqual(form_of(house, without(order * 12, found)), form)
        self.assertEqual(strikes(house, log, form_of(house, order)), [])

    def test_clean(self):
        for function in (strikes, strike_reasons):
            check_clean(self, function, HOUSE, list(LOG), FORM)
            check_clean(self, function, HOUSE, [(1, "horn")], FORM)
