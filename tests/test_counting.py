"""callsheard/counting.py: [75] and [76] and the interface."""

import itertools
import math
import random
import unittest

from callsheard.counting import count_forms, count_forms_with, kth_form, rank_form, walk_forms_with
from callsheard.errors import NotAForm, OutOfRange, TooLarge
from callsheard.forms import form_of, is_form, silent_form, words_by_form
from callsheard.house import House
from callsheard.orders import count_orders
from tests.support import every_house, form_by_definition, some_houses, spoil

WORDS = ["bell", "drum", "horn", "wind"]
HOUSE = House.corridor(3)


def forms_by_logs(house, words):
    """The sorted forms of all logs that call every room, and no other words."""
    orders = list(itertools.permutations(range(house.rooms)))
    choices = itertools.product(words, repeat=house.rooms)
    return sorted({form_of(house, [(r, choice[r]) for r in order]) for choice in choices for order in orders})


def forms_with_by_logs(house, room_words):
    called = [room for room, word in enumerate(room_words) if word is not None]
    logs = [[(room, room_words[room]) for room in order] for order in itertools.permutations(called)]
    return sorted({form_by_definition(house, log) for log in logs})


def full_count(rooms, q):
    """F(n) in a full house: choose the tops; the rest hangs together and has another word."""
    counts = [1]
    for n in range(1, rooms + 1):
        rest = [1] + [count * (q - 1) // q for count in counts[1:]]
        counts.append(q * sum(math.comb(n, k) * rest[n - k] for k in range(1, n + 1)))
    return counts[rooms]


def star_count(leaves, q):
    """The forms of a star. If the middle is a top, the leaves that are not stand alone and have other words."""
    counts = [q]
    for n in range(1, leaves + 1):
        with_middle = q * q ** n  # each leaf is a top, or has one of the q - 1 other words
        without = q * sum(math.comb(n, k) * counts[n - k] * (q - 1) // q for k in range(1, n + 1))
        counts.append(with_middle + without)
    return counts[leaves]


def houses_to_count(seed):
    yield from every_house(1)
    yield from every_house(2)
    yield from every_house(3)
    yield from some_houses(seed, 4, 8)
    yield from (House(4, []), House.full(4), House.star(4), House.ring(4))


def check_range(test, house, words, count):
    for k in (-1, -count, -count - 1, count, count + 1, 10 ** 12):
        if not 0 <= k < count:
            with test.assertRaises(OutOfRange) as caught:
                kth_form(house, words, k)
            test.assertEqual(caught.exception.count, count)


class FormsOverWordsTest(unittest.TestCase):
    def test_against_all_logs(self):
        for house in houses_to_count(1241):
            for words in (WORDS[:1], WORDS[1:3], WORDS[:3] if house.rooms < 4 else ["a", "b"]):
                forms = forms_by_logs(house, words)
                self.assertEqual(count_forms(house, words), len(forms))
                for k in sorted(set(range(0, len(forms), 7)) | {len(forms) - 1}):
                    self.assertEqual(kth_form(house, words, k), forms[k])
                    self.assertEqual(rank_form(house, words, forms[k]), k)
                check_range(self, house, words, len(forms))

    def test_each_number(self):
        for house in (House(1, []), House.corridor(2), House(2, []), HOUSE, House(3, [(0, 2)]), House.full(3), House.star(4)):
            for words in (WORDS[:1], WORDS[:2], WORDS[:3]):
                forms = forms_by_logs(house, words)
                self.assertEqual([kth_form(house, words, k) for k in range(len(forms))], forms)
                self.assertEqual([rank_form(house, words, form) for form in forms], list(range(len(forms))))

    def test_four_words(self):
        for house in (House(1, []), House.corridor(2), HOUSE, House(3, [])):
            forms = forms_by_logs(house, WORDS)
            self.assertEqual(count_forms(house, WORDS), len(forms))
            self.assertEqual([kth_form(house, WORDS, k) for k in range(len(forms))], forms)

    def test_one_word(self):
        for house in (House(1, []), House.full(6), House.corridor(6), House(6, []), House(6, [(1, 4)])):
            form = form_of(house, [(room, "bell") for room in range(house.rooms)])
            self.assertEqual((count_forms(house, ["bell"]), kth_form(house, ["bell"], 0)), (1, form))
            self.assertEqual(rank_form(house, ["bell"], form), 0)
            check_range(self, house, ["bell"], 1)

    def test_houses_without_doors(self):
        house = House(6, [])
        self.assertEqual(count_forms(house, WORDS), 4 ** 6)
        for k in (0, 1, 4, 1234, 4095):
            words = [WORDS[k // 4 ** (5 - room) % 4] for room in range(6)]
            form = tuple((word, (room,), ()) for room, word in enumerate(words))
            self.assertEqual(kth_form(house, WORDS, k), form)
            self.assertEqual(rank_form(house, WORDS, form), k)

    def test_the_full_house_and_the_star(self):
        dice = random.Random(1242)
        self.assertEqual(count_forms(House.full(6), WORDS), 1471708)
        for make, formula in ((House.full, full_count), (House.star, lambda rooms, q: star_count(rooms - 1, q))):
            for rooms in range(1, 7):
                for q in range(1, 5):
                    self.assertEqual(count_forms(make(rooms), WORDS[:q]), formula(rooms, q))
            house = make(6)
            count = formula(6, 4)
            some = {0, 1, count // 4, count // 2, count - 2, count - 1}
            numbers = sorted(some | {dice.randrange(count) for _ in range(9)})
            forms = [kth_form(house, WORDS, k) for k in numbers]
            self.assertEqual(forms, sorted(forms))
            self.assertEqual([rank_form(house, WORDS, form) for form in forms], numbers)
            self.assertTrue(all(is_form(house, form) for form in forms))
            check_range(self, house, WORDS, count)
            k = rank_form(house, WORDS, (("bell", (0, 1, 2, 3, 4, 5), ()),))
            around = [kth_form(house, WORDS, number) for number in (k - 1, k, k + 1)]
            self.assertEqual(around, sorted(set(around)))
            self.assertEqual(around[1], (("bell", (0, 1, 2, 3, 4, 5), ()),))

    def test_neighbouring_numbers_of_six_rooms(self):
        dice = random.Random(1243)
        for house in some_houses(1244, 6, 8):
            words = WORDS[:dice.choice([2, 3, 4])]
            count = count_forms(house, words)
            start = dice.randrange(max(1, count - 20))
            forms = [kth_form(house, words, k) for k in range(start, min(count, start + 20))]
            self.assertEqual(forms, sorted(set(forms)))
            for k, form in enumerate(forms, start=start):
                self.assertEqual(rank_form(house, words, form), k)
                self.assertTrue(is_form(house, form))
                self.assertLessEqual(set(words_by_form(form)), set(words))
            log = [(room, dice.choice(words)) for room in dice.sample(range(6), 6)]
            form = form_of(house, log)
            self.assertEqual(kth_form(house, words, rank_form(house, words, form)), form)

    def test_what_is_no_form_over_the_words(self):
        bell, words = ("bell", (0, 1, 2), ()), ["bell", "drum"]
        self.assertEqual(kth_form(HOUSE, words, rank_form(HOUSE, words, (bell,))), (bell,))
        drum, silent = ("drum", (2,), ()), (None, (2,), ())
        wrong = [
            (), (bell, bell), silent_form(HOUSE), (("horn", (0, 1, 2), ()),), (("", (0, 1, 2), ()),),
            (("Bell", (0, 1, 2), ()),), ((None, (0, 1, 2), (drum,)),), (("bell", (), ()),), (("bell", (), (bell,)),),
            (("bell", (0, 1), ()),), (("bell", (0, 1), (silent,)),), (("bell", (0, 1), (("horn", (2,), ()),)),),
            (("bell", (0, 1), (("bell", (2,), ()),)),), (("bell", (0, 1), (drum, drum)),), (("bell", (1, 0, 2), ()),),
            (("bell", (0, 0, 1, 2), ()),), (("bell", (0, 1, 2, 3), ()),), (("bell", (-1, 0, 1, 2), ()),),
            (("bell", (0, 1, 2), (drum,)),), (("bell", (0, 1, 10 ** 30), ()),), (("bell", (1,), (drum, ("drum", (0,), ()))),),
            (("bell", (1,), (("drum", (0, 2), ()),)),), (("bell", (0,), ()), ("bell", (1, 2), ())),
            form_of(HOUSE, [(0, "bell"), (1, "bell")]), form_of(House(3, [(0, 1)]), [(r, "bell") for r in range(3)]),
            form_of(House.corridor(2), [(0, "bell"), (1, "drum")]), form_of(House.corridor(4), [(r, "bell") for r in range(4)]),
        ]
        deep = ()
        for _ in range(39):
            deep = (("bell", (0,), deep), )
        wrong.append((("drum", (0, 1, 2), deep),))
        for form in wrong:
            for house in (HOUSE, House.corridor(3)):
                with self.assertRaises(NotAForm, msg=form):
                    rank_form(house, words, form)
        with self.assertRaises(NotAForm):
            rank_form(House.star(6), WORDS, kth_form(House.full(6), WORDS, 1000))

    def test_rank_against_is_form(self):
        dice = random.Random(1245)
        for house in some_houses(1246, 4, 12):
            for other in (house, House.corridor(4), House.full(4)):
                log = [(room, dice.choice(WORDS)) for room in dice.sample(range(4), dice.choice([3, 4, 4]))]
                form = form_of(other, log)
                good = is_form(house, form) and set(words_by_form(form)) <= set(WORDS[:3])
                if good:
                    self.assertEqual(kth_form(house, WORDS[:3], rank_form(house, WORDS[:3], form)), form)
                else:
                    with self.assertRaises(NotAForm):
                        rank_form(house, WORDS[:3], form)


class FormsWithWordsTest(unittest.TestCase):
    def test_against_all_logs(self):
        dice = random.Random(1247)
        for house in itertools.chain(houses_to_count(1248), some_houses(1249, 5, 4)):
            for words in (WORDS[:1], WORDS[:2], WORDS[:2] + [None], WORDS + [None], list("pqrstu")):
                room_words = [dice.choice(words) for _ in range(house.rooms)]
                wanted = forms_with_by_logs(house, room_words)
                self.assertEqual(count_forms_with(house, room_words), len(wanted))
                self.assertEqual(list(walk_forms_with(house, room_words)), wanted)

    def test_the_orders_that_keep_the_forms(self):
        dice = random.Random(1250)
        for house in itertools.chain(some_houses(1251, 6, 12), (House.full(6), House(6, []), House.star(6))):
            for words in (WORDS[:2], WORDS[:3] + [None], list("pqrstu")):
                room_words = [dice.choice(words) for _ in range(6)]
                forms = list(walk_forms_with(house, room_words))
                self.assertEqual(forms, sorted(forms))
                self.assertEqual(len(forms), count_forms_with(house, room_words))
                self.assertTrue(all(words_by_form(form) == room_words and is_form(house, form) for form in forms))
                called = len([word for word in room_words if word is not None])
                self.assertEqual(sum(count_orders(house, form) for form in forms), math.factorial(called))

    def test_all_room_words_against_the_forms_over_the_words(self):
        for house in (HOUSE, House.ring(4), House.star(5), House.full(6)):
            words = WORDS[:2]
            choices = itertools.product(words, repeat=house.rooms)
            self.assertEqual(sum(count_forms_with(house, list(choice)) for choice in choices), count_forms(house, words))

    def test_silent_rooms(self):
        for house in (House(1, []), HOUSE, House.full(6), House(6, [])):
            silent = [None] * house.rooms
            self.assertEqual(count_forms_with(house, silent), 1)
            self.assertEqual(list(walk_forms_with(house, silent)), [silent_form(house)])
        self.assertEqual(list(walk_forms_with(HOUSE, ["bell", None, "drum"])), [
            (("bell", (0,), (("drum", (2,), ((None, (1,), ()),)),)),),
            (("drum", (2,), (("bell", (0,), ((None, (1,), ()),)),)),),
        ])
        self.assertEqual(count_forms_with(HOUSE, [None, "bell", None]), 1)

    def test_as_many_as_there_can_be(self):
        house = House.full(6)
        forms = list(walk_forms_with(house, list("pqrstu")))
        self.assertEqual((len(forms), count_forms_with(house, list("pqrstu"))), (720, 720))
        self.assertEqual(forms, sorted(set(forms)))
        self.assertEqual(count_forms_with(House(6, []), list("pqrstu")), 1)


class ErrorsTest(unittest.TestCase):
    def test_too_large(self):
        for house in (House(7, []), House.full(7), House.corridor(12), House.full(12)):
            form = form_of(house, [(room, "bell") for room in range(house.rooms)])
            silent = [None] * house.rooms
            for function in (
                lambda: count_forms(house, WORDS), lambda: kth_form(house, WORDS, 0), lambda: kth_form(house, WORDS, -1),
                lambda: kth_form(house, WORDS, 10 ** 30), lambda: rank_form(house, WORDS, form),
                lambda: rank_form(house, WORDS, ()), lambda: count_forms_with(house, silent),
                lambda: list(walk_forms_with(house, silent)), lambda: next(iter(walk_forms_with(house, silent))),
            ):
                with self.assertRaises(TooLarge) as caught:
                    function()
                self.assertEqual(caught.exception.size, house.rooms)

    def test_clean(self):
        words, room_words = list(WORDS), ["bell", None, "drum"]
        form = kth_form(HOUSE, words, 50)
        self.assertEqual((rank_form(HOUSE, words, form), count_forms(HOUSE, words)), (50, count_forms(HOUSE, WORDS)))
        self.assertEqual(count_forms_with(HOUSE, room_words), 2)
        self.assertEqual((words, room_words), (WORDS, ["bell", None, "drum"]))
        wanted = list(walk_forms_with(HOUSE, room_words))
        found = []
        for form in walk_forms_with(HOUSE, room_words):
            found.append(form)
            spoil(room_words)
        self.assertEqual(found, wanted)
        spoil(words)
        self.assertEqual(kth_form(HOUSE, WORDS, 50), kth_form(HOUSE, list(WORDS), 50))
