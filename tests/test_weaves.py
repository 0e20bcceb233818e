"""callsheard/weaves.py: [72] to [74] and the interface."""

import itertools
import random
import unittest

from callsheard.alike import alike
from callsheard.errors import BadHouse, BadWeave, OutOfRange
from callsheard.forms import form_of
from callsheard.house import House
from callsheard.joining import join_houses, ladder
from callsheard.weaves import Joint
from tests.support import a_log, by_definition_last_calls, form_by_definition, some_houses

FIRST = [(0, "bell"), (1, "horn")]
SECOND = [(0, "bell")]


def example(second_log=None):
    return Joint(House.corridor(2), FIRST, House(1, []), SECOND if second_log is None else second_log, (1, 0))


def every_weave(first_log, second_log):
    """All weaves in ascending order."""
    first, second = [len(by_definition_last_calls(log)) for log in (first_log, second_log)]
    for places in itertools.combinations(range(first + second), first):
        yield "".join("a" if place in places else "b" for place in range(first + second))


def woven_by_definition(first_house, first_log, second_log, weave):
    waiting = {
        "a": by_definition_last_calls(first_log),
        "b": [(room + first_house.rooms, word) for room, word in by_definition_last_calls(second_log)],
    }
    return [waiting[letter].pop(0) for letter in weave]


def heard_letters(first_house, first_log, second_house, second_log, door, weave):
    """The letters of a weave whose calls are heard at the door, each with its word."""
    n = first_house.rooms
    calls = ladder(first_house, first_log, door[0])
    calls += [(room + n, word) for room, word in ladder(second_house, second_log, door[1])]
    woven = woven_by_definition(first_house, first_log, second_log, weave)
    return [(letter, call[1]) for letter, call in zip(weave, woven) if call in calls]


def pattern_in_any_order(dice, letters):
    """Exchange the letters as [73] says, each time at any place."""
    letters = list(letters)
    while True:
        places = [
            k for k in range(len(letters) - 1)
            if (letters[k][0], letters[k + 1][0]) == ("b", "a") and letters[k][1] == letters[k + 1][1]
        ]
        if not places:
            return "".join(letter for letter, _ in letters)
        k = dice.choice(places)
        letters[k], letters[k + 1] = letters[k + 1], letters[k]


def plain_weave(first_house, first_log, second_house, second_log, door, pattern):
    """The plain weave, with the calls of both logs taken one by one."""
    left = {"a": by_definition_last_calls(first_log), "b": by_definition_last_calls(second_log)}
    at_door = {"a": ladder(first_house, first_log, door[0]), "b": ladder(second_house, second_log, door[1])}
    taken = []
    for letter in pattern:
        wanted = at_door[letter].pop(0)
        for call in list(left[letter]):
            left[letter].remove(call)
            taken.append(letter)
            if call == wanted:
                break
    return "".join(taken) + "a" * len(left["a"]) + "b" * len(left["b"])


def joint_trials(seed, count, most=5):
    """Two houses with a log each and a door, with few enough calls to look at all weaves."""
    dice = random.Random(seed)
    for _ in range(count):
        first_rooms, second_rooms = dice.randrange(1, most), dice.randrange(1, most)
        (first,), (second,) = some_houses(dice.random(), first_rooms, 1), some_houses(dice.random(), second_rooms, 1)
        words = dice.choice([["bell"], ["bell", "drum"], ["bell", "drum", "horn"], ["a", "b", "c", "d", "e"]])
        logs = [a_log(dice, house.rooms, dice.randrange(2 * house.rooms), words) for house in (first, second)]
        yield first, logs[0], second, logs[1], (dice.randrange(first_rooms), dice.randrange(second_rooms))


class WovenTest(unittest.TestCase):
    def test_woven_logs_and_forms(self):
        for first, first_log, second, second_log, door in joint_trials(1231, 80):
            joint = Joint(first, first_log, second, second_log, door)
            wanted = join_houses(first, second, door)
            house = joint.joined_house()
            self.assertIs(type(house), House)
            self.assertEqual((house.rooms, house.doors()), (wanted.rooms, wanted.doors()))
            for weave in list(every_weave(first_log, second_log))[:12]:
                log = woven_by_definition(first, first_log, second_log, weave)
                self.assertEqual(joint.woven_log(weave), log)
                self.assertEqual(joint.woven_form(weave), form_by_definition(wanted, log))

    def test_example_of_the_document(self):
        joint = example()
        self.assertEqual([joint.pattern(weave) for weave in ("aab", "aba", "baa")], ["ab", "ba", "ba"])
        self.assertEqual(joint.pattern_count(), 2)
        self.assertEqual([joint.weave_at(0), joint.weave_at(1)], ["aab", "baa"])
        self.assertEqual([joint.rank_of(weave) for weave in ("aab", "aba", "baa")], [0, 1, 1])
        self.assertEqual(joint.woven_log("aba"), [(0, "bell"), (2, "bell"), (1, "horn")])
        self.assertIs(joint.alike_weaves("aba", "baa"), True)
        self.assertIs(joint.alike_weaves("aab", "aba"), False)
        joint = example([(0, "horn")])
        self.assertEqual([joint.pattern(weave) for weave in ("aab", "aba", "baa")], ["ab"] * 3)
        self.assertEqual((joint.pattern_count(), joint.weave_at(0)), (1, "aab"))

    def test_thirteen_rooms(self):
        one, twelve = House(1, []), House(12, [])
        for first, second in ((House.corridor(6), House.full(7)), (twelve, one), (one, twelve)):
            with self.assertRaises(BadHouse) as caught:
                Joint(first, [], second, [(0, "a")], (0, 0))
            self.assertEqual(caught.exception.place, -1)

    def test_without_calls(self):
        joint = Joint(House.corridor(2), [], House.ring(3), [], (1, 0))
        self.assertEqual((joint.woven_log(""), joint.pattern(""), joint.pattern_count()), ([], "", 1))
        self.assertEqual((joint.weave_at(0), joint.rank_of("")), ("", 0))
        self.assertEqual(joint.woven_form(""), ((None, (0, 1, 2, 3, 4), ()),))
        self.assertIs(joint.alike_weaves("", ""), True)
        joint = Joint(House.corridor(2), FIRST, House.ring(3), [], (1, 0))
        self.assertEqual((joint.pattern("aa"), joint.pattern_count(), joint.weave_at(0)), ("a", 1, "aa"))
        joint = Joint(House(1, []), [], House.corridor(2), FIRST, (0, 0))
        self.assertEqual((joint.pattern("bb"), joint.pattern_count(), joint.weave_at(0)), ("bb", 1, "bb"))

    def test_only_last_calls_are_woven(self):
        joint = Joint(House.corridor(2), FIRST + FIRST + [(0, "drum")], House(1, []), SECOND * 5, (1, 0))
        self.assertEqual(joint.woven_log("aba"), [(1, "horn"), (2, "bell"), (0, "drum")])
        for weave in ("aaaaab", "aabbbbb"):
            with self.assertRaises(BadWeave):
                joint.woven_log(weave)


class PatternsTest(unittest.TestCase):
    def test_patterns_against_exchanges_in_any_order(self):
        dice = random.Random(1232)
        for trial in joint_trials(1233, 60):
            joint = Joint(*trial)
            for weave in list(every_weave(trial[1], trial[3]))[:20]:
                letters = heard_letters(*trial, weave)
                for _ in range(3):
                    self.assertEqual(joint.pattern(weave), pattern_in_any_order(dice, letters))

    def test_patterns_against_forms_over_all_weaves(self):
        counts = set()
        for first, first_log, second, second_log, door in joint_trials(1234, 400):
            joint = Joint(first, first_log, second, second_log, door)
            forms, patterns = {}, {}
            for weave in every_weave(first_log, second_log):
                form = form_of(joint.joined_house(), woven_by_definition(first, first_log, second_log, weave))
                forms.setdefault(form, []).append(weave)
                patterns.setdefault(joint.pattern(weave), []).append(weave)
            self.assertEqual(sorted(forms.values()), sorted(patterns.values()))
            self.assertEqual(joint.pattern_count(), len(forms))
            for number, pattern in enumerate(sorted(patterns)):
                self.assertEqual({joint.rank_of(weave) for weave in patterns[pattern]}, {number})
                weave = joint.weave_at(number)
                self.assertEqual(weave, plain_weave(first, first_log, second, second_log, door, pattern))
                self.assertIn(weave, patterns[pattern])
            counts.add(len(forms))
        self.assertGreater(len(counts), 6)

    def test_alike_weaves_against_logs(self):
        answers = set()
        for first, first_log, second, second_log, door in joint_trials(1235, 40, 4):
            joint = Joint(first, first_log, second, second_log, door)
            weaves = list(every_weave(first_log, second_log))[:8]
            for one, other in itertools.product(weaves, repeat=2):
                logs = [woven_by_definition(first, first_log, second_log, weave) for weave in (one, other)]
                wanted = alike(joint.joined_house(), *logs)
                self.assertIs(joint.alike_weaves(one, other), wanted)
                self.assertIs(joint.pattern(one) == joint.pattern(other), wanted)
                answers.add(wanted)
        self.assertEqual(answers, {True, False})

    def test_exchanges_pass_on(self):
        # All words are alike: whatever the weave, every b goes behind every a.
        joint = Joint(House(3, []), [(0, "a"), (1, "a"), (2, "a")], House(1, []), [(0, "a")], (1, 0))
        self.assertEqual({joint.pattern(weave) for weave in ("aaab", "aaba", "abaa", "baaa")}, {"ab"})
        log = [(room, "a") for room in range(3)]
        joint = Joint(House.corridor(3), log, House.corridor(3), log, (0, 0))
        self.assertEqual({joint.pattern(weave) for weave in ("ababab", "bbbaaa", "aaabbb", "babaab")}, {"aaabbb"})
        self.assertEqual((joint.pattern_count(), joint.weave_at(0)), (1, "aaabbb"))

    def test_twelve_rooms(self):
        log, other = [(room, "abcdef"[room]) for room in range(6)], [(room, "uvwxyz"[room]) for room in range(6)]
        joint = Joint(House.corridor(6), log, House.corridor(6), other, (0, 0))
        self.assertEqual(joint.pattern_count(), 924)
        weaves = [joint.weave_at(k) for k in range(924)]
        self.assertEqual(weaves, list(every_weave(log, other)))
        self.assertEqual([joint.rank_of(weave) for weave in weaves], list(range(924)))
        self.assertEqual([joint.pattern(weave) for weave in weaves], weaves)
        joint = Joint(House.corridor(11), [(room, "a") for room in range(11)], House(1, []), [(0, "b")], (10, 0))
        self.assertEqual(joint.pattern_count(), 2)
        self.assertEqual([joint.weave_at(0), joint.weave_at(1)], ["a" * 11 + "b", "b" + "a" * 11])

    def test_numbers_out_of_range(self):
        for joint, count in ((example(), 2), (example([(0, "horn")]), 1), (example([]), 1)):
            for k in (-1, -count, count, count + 1, 10 ** 9):
                with self.assertRaises(OutOfRange) as caught:
                    joint.weave_at(k)
                self.assertEqual(caught.exception.count, count)

    def test_bad_weaves(self):
        joint = example()
        bad = ["", "a", "aa", "ab", "bb", "aabb", "aaab", "abb", "bbb", "aaa", "aac", "AAB", "aab ", "a ab", "aba\n", "xyz"]
        for weave in bad:
            for function in (
                joint.woven_log, joint.woven_form, joint.pattern, joint.rank_of,
                lambda text: joint.alike_weaves(text, "aab"), lambda text: joint.alike_weaves("aab", text),
                lambda text: joint.alike_weaves(text, text),
            ):
                with self.assertRaises(BadWeave):
                    function(weave)
        with self.assertRaises(BadWeave):
            Joint(House(1, []), [], House(1, []), [], (0, 0)).pattern("a")

    def test_clean(self):
        first, second = list(FIRST), list(SECOND)
        joint = Joint(House.corridor(2), first, House(1, []), second, (1, 0))
        self.assertEqual((first, second), (FIRST, SECOND))
        first.reverse()
        first.append((0, "drum"))
        second.clear()
        log = joint.woven_log("aab")
        self.assertEqual(log, FIRST + [(2, "bell")])
        log.clear()
        joint.joined_house().doors().clear()
        self.assertEqual(joint.woven_log("aab"), FIRST + [(2, "bell")])
        for _ in range(2):
            self.assertEqual((joint.pattern_count(), joint.weave_at(1), joint.weave_at(0)), (2, "baa", "aab"))
            self.assertEqual((joint.pattern("aba"), joint.rank_of("aab")), ("ba", 0))
        self.assertEqual(joint.woven_form("aab"), form_of(House.corridor(3), FIRST + [(2, "bell")]))
