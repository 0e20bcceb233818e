"""callsheard/corridors.py: [77] and the interface."""

import random
import unittest

from callsheard.corridors import corridor_count, corridor_form, corridor_rank
from callsheard.counting import count_forms, kth_form, rank_form
from callsheard.errors import NotAForm, OutOfRange
from callsheard.forms import form_of, is_form, silent_form, words_by_form
from callsheard.house import House
from tests.support import a_log

WORDS = ["bell", "drum", "horn", "wind"]


def count_by_definition(rooms, q):
    """F(rooms), as [77] tells it."""
    counts = [1]
    for n in range(1, rooms + 1):
        rest = [counts[0]] + [count // q * (q - 1) for count in counts[1:]]
        counts.append(q * sum(rest[g] * counts[n - 1 - g] for g in range(n)))
    return counts[rooms]


def check_range(test, rooms, words, count):
    for k in (-1, -count, -count - 1, count, count + 1, 10 ** 40):
        with test.assertRaises(OutOfRange) as caught:
            corridor_form(rooms, words, k)
        test.assertEqual(caught.exception.count, count)


class CountTest(unittest.TestCase):
    def test_the_numbers_of_the_document(self):
        self.assertEqual([corridor_count(n, 2) for n in range(7)], [1, 2, 6, 22, 90, 394, 1806])
        self.assertEqual(corridor_count(12, 4), 764811509644)

    def test_against_the_definition(self):
        for q in range(1, 10):
            for n in (0, 1, 2, 3, 5, 12, 13, 27, 39, 40):
                self.assertEqual(corridor_count(n, q), count_by_definition(n, q))

    def test_some_counts(self):
        for q in range(1, 10):
            self.assertEqual((corridor_count(0, q), corridor_count(1, q)), (1, q))
            # Two rooms: one block, or either room before the other one.
            self.assertEqual(corridor_count(2, q), q + 2 * q * (q - 1))
        self.assertEqual({corridor_count(n, 1) for n in range(41)}, {1})
        # The great Schroeder numbers have a rule of their own.
        numbers = [corridor_count(n, 2) for n in range(41)]
        for n in range(3, 41):
            self.assertEqual((n + 1) * numbers[n], 3 * (2 * n - 1) * numbers[n - 1] - (n - 2) * numbers[n - 2])

    def test_against_count_forms(self):
        for q in range(1, 5):
            for n in range(1, 7):
                self.assertEqual(corridor_count(n, q), count_forms(House.corridor(n), WORDS[:q]))


class NumberedTest(unittest.TestCase):
    def test_each_number_against_kth_form_and_rank_form(self):
        for q in range(1, 5):
            for rooms in range(1, 4 if q > 2 else 5):
                house, words = House.corridor(rooms), WORDS[:q]
                for k in range(corridor_count(rooms, q)):
                    form = corridor_form(rooms, words, k)
                    self.assertEqual(form, kth_form(house, words, k))
                    self.assertEqual(corridor_rank(rooms, words, form), k)
                    self.assertEqual(rank_form(house, words, form), k)
                check_range(self, rooms, words, corridor_count(rooms, q))

    def test_some_numbers_against_kth_form_and_rank_form(self):
        dice = random.Random(1261)
        for rooms in (4, 5, 6):
            for q in (2, 3, 4):
                house, words = House.corridor(rooms), WORDS[:q]
                count = corridor_count(rooms, q)
                for k in [0, 1, count - 1] + [dice.randrange(count) for _ in range(25)]:
                    form = kth_form(house, words, k)
                    self.assertEqual(corridor_form(rooms, words, k), form)
                    self.assertEqual(corridor_rank(rooms, words, form), k)

    def test_twelve_rooms(self):
        dice = random.Random(1262)
        for rooms in (7, 10, 11, 12):
            for q in (1, 2, 3, 4):
                house, words = House.corridor(rooms), WORDS[:q]
                count = corridor_count(rooms, q)
                numbers = sorted({0, count // 2, count - 1} | {dice.randrange(count) for _ in range(30)})
                forms = [corridor_form(rooms, words, k) for k in numbers]
                self.assertEqual(forms, sorted(set(forms)))
                self.assertEqual([corridor_rank(rooms, words, form) for form in forms], numbers)
                self.assertTrue(all(is_form(house, form) and set(words_by_form(form)) <= set(words) for form in forms))
                check_range(self, rooms, words, count)
                log = [(room, dice.choice(words)) for room in dice.sample(range(rooms), rooms)]
                form = form_of(house, log)
                self.assertEqual(corridor_form(rooms, words, corridor_rank(rooms, words, form)), form)

    def test_neighbouring_numbers_of_twelve_rooms(self):
        dice = random.Random(1263)
        for _ in range(20):
            start = dice.randrange(764811509644 - 30)
            forms = [corridor_form(12, WORDS, k) for k in range(start, start + 30)]
            self.assertEqual(forms, sorted(set(forms)))
            self.assertEqual([corridor_rank(12, WORDS, form) for form in forms], list(range(start, start + 30)))

    def test_first_and_last(self):
        # The first form has the least word, the least tops, and the first inner form.
        self.assertEqual(corridor_form(2, WORDS, 0), (("bell", (0,), (("drum", (1,), ()),)),))
        self.assertEqual(corridor_form(1, WORDS, 3), (("wind", (0,), ()),))
        self.assertEqual(corridor_form(2, WORDS, 27), (("wind", (1,), (("horn", (0,), ()),)),))
        self.assertEqual(corridor_form(12, ["bell"], 0), (("bell", tuple(range(12)), ()),))
        nested = ()
        for room in range(11, -1, -1):
            nested = ((WORDS[room % 2], (room,), nested),)
        self.assertEqual(corridor_form(12, WORDS, 0), nested)
        self.assertEqual(corridor_rank(12, WORDS, nested), 0)
        check_range(self, 1, ["bell"], 1)

    def test_what_is_no_form_over_the_words(self):
        words = ["bell", "drum"]
        drum, silent = ("drum", (2,), ()), (None, (2,), ())
        wrong = [
            (), (("bell", (0, 1, 2), ()),) * 2, silent_form(House.corridor(3)), (("horn", (0, 1, 2), ()),),
            (("", (0, 1, 2), ()),), ((None, (0, 1), (drum,)),), (("bell", (), ()),), (("bell", (0, 1), ()),),
            (("bell", (0, 1), (silent,)),), (("bell", (0, 1), (("horn", (2,), ()),)),), (("bell", (0, 1, 3), (drum,)),),
            (("bell", (0, 1), (("bell", (2,), ()),)),), (("bell", (0, 1), (drum, drum)),), (("bell", (1, 0, 2), ()),),
            (("bell", (0, 0, 1, 2), ()),), (("bell", (0, 1, 2, 3), ()),), (("bell", (-1, 0, 1, 2), ()),),
            (("bell", (0, 1, 2), (drum,)),), (("bell", (10 ** 30,), ()),), (("bell", (1,), (drum, ("drum", (0,), ()))),),
            (("bell", (1,), (("drum", (0, 2), ()),)),), (("bell", (0,), (("drum", (0, 1, 2), ()),)),),
            (("bell", (0,), ()), ("bell", (1, 2), ())), (("bell", (1,), (("drum", (0,), ()),)),),
            (("bell", (0,), (("drum", (1,), (drum,)),)),),
            form_of(House.corridor(3), [(0, "bell"), (1, "bell")]), form_of(House(3, []), [(r, "bell") for r in range(3)]),
            form_of(House.full(3), [(1, "bell"), (0, "drum"), (2, "bell")][::-1]) + ((("bell", (0,), ())),),
        ]
        deep = ()
        for _ in range(39):
            deep = (("bell", (0,), deep),)
        wrong.append((("drum", (0, 1, 2), deep),))
        for form in wrong:
            with self.assertRaises(NotAForm, msg=form):
                corridor_rank(3, words, form)
            with self.assertRaises(NotAForm, msg=form):
                rank_form(House.corridor(3), words, form)
        for rooms in (2, 4, 11, 12):
            with self.assertRaises(NotAForm):
                corridor_rank(rooms, words, corridor_form(3, words, 5))
        with self.assertRaises(NotAForm):
            corridor_rank(12, WORDS, corridor_form(11, WORDS, 12345))

    def test_forms_of_other_houses(self):
        dice = random.Random(1264)
        corridor = House.corridor(4)
        answers = set()
        for house in (House.full(4), House.star(4), House(4, [(0, 1), (2, 3)]), House.ring(4), corridor):
            for _ in range(25):
                form = form_of(house, a_log(dice, 4, 7, WORDS[:3]))
                good = is_form(corridor, form) and None not in words_by_form(form)
                answers.add(good)
                if good:
                    self.assertEqual(corridor_form(4, WORDS[:3], corridor_rank(4, WORDS[:3], form)), form)
                else:
                    with self.assertRaises(NotAForm):
                        corridor_rank(4, WORDS[:3], form)
        self.assertEqual(answers, {True, False})

    def test_clean(self):
        words = list(WORDS)
        form = corridor_form(12, words, 10 ** 11)
        self.assertEqual((corridor_rank(12, words, form), words), (10 ** 11, WORDS))
        words.reverse()
        self.assertEqual(corridor_rank(12, WORDS, form), 10 ** 11)
