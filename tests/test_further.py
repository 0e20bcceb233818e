"""callsheard/further.py: [78], [79], the example behind [81] and the interface."""

import itertools
import random
import unittest

from callsheard.forced import forced_pairs
from callsheard.forms import form_of, silent_form, words_by_form
from callsheard.formtext import parse_form
from callsheard.further import again_reasons, further_calls, rooms_again
from callsheard.house import House
from tests.support import a_log, blocks_in_order, check_clean, every_house, form_by_definition, some_houses

HOUSE = House.corridor(2)
LOG = [(0, "bell"), (1, "horn"), (0, "bell")]
FORM = parse_form("horn[1](bell[0])")


def plain_log_of(form):
    calls = []
    for word, tops, inner in form:
        if word is not None:
            calls += plain_log_of(inner) + [(room, word) for room in tops]
    return calls


def words_and_places(log):
    return dict(log), {room: place for place, (room, _) in enumerate(log)}


def reasons_by_rules(house, log, form):
    """The rooms to call again and their reasons, by the three rules of [78] one by one, or None."""
    wished = {room: block[0] for block in blocks_in_order(form) for room in block[1]}
    words, places = words_and_places(log)
    if any(wished[room] is None for room in words):
        return None
    pairs = forced_pairs(house, form)
    reasons = {}
    for room in sorted(wished):
        if wished[room] is not None and words.get(room) != wished[room]:
            reasons[room] = ("word",)
    for z, x in sorted(pairs):
        if z in places and x in places and places[z] > places[x] and x not in reasons:
            reasons[x] = ("late", z)
    members = set(reasons)
    while True:
        more = {x for z, x in pairs if z in members} - members
        if not more:
            break
        members |= more
    for x in members - set(reasons):
        reasons[x] = ("after", min(z for z, other in pairs if other == x and z in members))
    return sorted(reasons.items())


def wished_trials(seed, most_rooms=5):
    """Houses with a log and a wished form each; the log is mostly made from one of the form."""
    dice = random.Random(seed)
    houses = itertools.chain(every_house(1), every_house(2), every_house(3), some_houses(seed, 4, 30))
    for house in itertools.chain(houses, some_houses(seed + 1, most_rooms, 20)):
        for _ in range(5):
            words = dice.choice([["bell"], ["bell", "drum"], ["bell", "drum", "horn"]])
            wish = a_log(dice, house.rooms, dice.randrange(2 * house.rooms + 2), words)
            log = list(wish)
            for _ in range(dice.randrange(4)):
                change = dice.randrange(4)
                if change == 0:
                    dice.shuffle(log)
                elif change == 1 and log:
                    log.pop(dice.randrange(len(log)))
                elif change == 2 and wish:
                    log.insert(dice.randrange(len(log) + 1), dice.choice(wish))
                else:
                    room = dice.choice(wish)[0] if wish and dice.random() < 0.7 else dice.randrange(house.rooms)
                    log.insert(dice.randrange(len(log) + 1), (room, dice.choice(words)))
            yield house, log, form_of(house, wish)


class RulesTest(unittest.TestCase):
    def test_against_the_three_rules(self):
        kinds = set()
        for house, log, form in itertools.chain(wished_trials(1271), wished_trials(1272, 6)):
            wanted = reasons_by_rules(house, log, form)
            self.assertEqual(again_reasons(house, log, form), wanted)
            if wanted is None:
                self.assertIsNone(rooms_again(house, log, form))
                self.assertIsNone(further_calls(house, log, form))
                kinds.add(None)
                continue
            rooms = tuple(room for room, _ in wanted)
            self.assertEqual(rooms_again(house, log, form), rooms)
            calls = further_calls(house, log, form)
            self.assertEqual(calls, [call for call in plain_log_of(form) if call[0] in rooms])
            self.assertEqual(form_by_definition(house, log + calls), form)
            kinds |= {reason[0] for _, reason in wanted}
        self.assertEqual(kinds, {None, "word", "late", "after"})

    def test_each_rule(self):
        corridor = House.corridor(3)
        form = parse_form("drum[1](bell[0] horn[2])")
        for log, wanted in (
            ([], [(0, ("word",)), (1, ("word",)), (2, ("word",))]),
            ([(0, "bell"), (1, "drum")], [(1, ("after", 2)), (2, ("word",))]),
            ([(0, "bell"), (2, "horn")], [(1, ("word",))]),
            ([(1, "drum"), (2, "horn"), (0, "bell")], [(1, ("late", 0))]),
            ([(0, "bell"), (1, "drum"), (2, "horn")], [(1, ("late", 2))]),
            ([(0, "horn"), (2, "horn"), (1, "drum")], [(0, ("word",)), (1, ("after", 0))]),
            ([(0, "horn"), (1, "drum"), (2, "horn")], [(0, ("word",)), (1, ("late", 2))]),
            ([(1, "bell"), (0, "bell"), (2, "horn")], [(1, ("word",))]),
            ([(2, "horn"), (0, "drum"), (0, "bell"), (1, "drum")], []),
        ):
            self.assertEqual(again_reasons(corridor, log, form), wanted)
            self.assertEqual(rooms_again(corridor, log, form), tuple(room for room, _ in wanted))

    def test_chains_of_forced_pairs(self):
        house = House.corridor(4)
        form = form_of(house, [(0, "a"), (1, "b"), (2, "c"), (3, "d")])
        self.assertEqual(again_reasons(house, [(1, "b"), (2, "c"), (3, "d")], form), [
            (0, ("word",)), (1, ("after", 0)), (2, ("after", 1)), (3, ("after", 2)),
        ])
        log = [(1, "b"), (0, "a"), (2, "c"), (3, "d")]
        self.assertEqual(further_calls(house, log, form), [(1, "b"), (2, "c"), (3, "d")])
        self.assertEqual(again_reasons(house, log, form), [(1, ("late", 0)), (2, ("after", 1)), (3, ("after", 2))])

    def test_example_of_the_document(self):
        self.assertEqual(further_calls(HOUSE, LOG, FORM), [(1, "horn")])
        self.assertEqual(again_reasons(HOUSE, LOG, FORM), [(1, ("late", 0))])
        self.assertEqual(rooms_again(HOUSE, LOG, FORM), (1,))

    def test_a_log_that_has_the_form_already(self):
        for house, log, _ in wished_trials(1273):
            form = form_of(house, log)
            answers = [function(house, log, form) for function in (rooms_again, further_calls, again_reasons)]
            self.assertEqual(answers, [(), [], []])
        for house in (House(1, []), House.full(12)):
            answers = [function(house, [], silent_form(house)) for function in (rooms_again, further_calls, again_reasons)]
            self.assertEqual(answers, [(), [], []])

    def test_a_room_that_the_form_does_not_call(self):
        corridor = House.corridor(3)
        for log in ([(2, "horn")], [(0, "bell"), (1, "horn"), (2, "bell")], [(2, "bell"), (2, "horn"), (0, "bell")]):
            for form in (silent_form(corridor), form_of(corridor, [(0, "bell"), (1, "horn")])):
                for function in (rooms_again, further_calls, again_reasons):
                    self.assertIsNone(function(corridor, log, form))

    def test_from_nothing(self):
        for house, log, form in wished_trials(1274):
            called = tuple(room for room, word in enumerate(words_by_form(form)) if word is not None)
            self.assertEqual(rooms_again(house, [], form), called)
            self.assertEqual(further_calls(house, [], form), plain_log_of(form))
            self.assertEqual(again_reasons(house, [], form), [(room, ("word",)) for room in called])

    def test_twelve_rooms(self):
        dice = random.Random(1275)
        for house in some_houses(1276, 12, 12):
            log = a_log(dice, 12, 60, ["a", "b", "c"]) + [(room, "a") for room in range(12)]
            form = form_of(house, [(room, dice.choice("abc")) for room in dice.sample(range(12), 12)])
            self.assertEqual(again_reasons(house, log, form), reasons_by_rules(house, log, form))
            self.assertEqual(form_of(house, log + further_calls(house, log, form)), form)
        house = House.full(12)
        order = [(room, "abcdefghijkl"[room]) for room in range(12)]
        form = form_of(house, order)
        self.assertEqual(further_calls(house, order + order[:1], form), order[1:])
        self.assertEqual(further_calls(house, order[1:], form), order)

    def test_clean(self):
        for function in (rooms_again, further_calls, again_reasons):
            check_clean(self, function, HOUSE, list(LOG), FORM)
            check_clean(self, function, HOUSE, [], FORM)


class FewestTest(unittest.TestCase):
    def test_against_all_short_lists_of_calls(self):
        for house, log, form in list(wished_trials(1277))[::2]:
            if house.rooms > 3:
                break
            words = sorted({word for word in words_by_form(form) if word is not None} | {"other"})
            calls = [(room, word) for room in range(house.rooms) for word in words]
            found = further_calls(house, log, form)
            again = set() if found is None else {room for room, _ in found}
            for count in range(4 if len(calls) < 8 else 3):
                for more in itertools.product(calls, repeat=count):
                    if form_of(house, log + list(more)) == form:
                        self.assertIsNotNone(found)
                        self.assertLessEqual(again, {room for room, _ in more})
                        if count == len(found):
                            self.assertEqual(sorted(room for room, _ in more), sorted(again))
                    elif found is not None:
                        self.assertNotEqual(list(more), found)
