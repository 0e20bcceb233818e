"""callsheard/forms.py: [21] to [25] and the interface."""

import itertools
import random
import unittest

from callsheard.alike import alike
from callsheard.forms import (
    block_rooms, blocks, form_of, is_form, plain_log, silent_form, word_by_form, words_by_form,
)
from callsheard.house import House
from callsheard.logs import words_of
from tests.support import (
    a_log, blocks_in_order, check_clean, every_house, form_by_definition, form_trials, parts_of, pieces_of,
    rooms_of, trials, word_in,
)

ALPHABET = "abcdefghijkl"


def all_logs(rooms, words):
    """Each log with at most one call in each room."""
    for count in range(rooms + 1):
        for order in itertools.permutations(range(rooms), count):
            for said in itertools.product(words, repeat=count):
                yield list(zip(order, said))


class FormOfTest(unittest.TestCase):
    def test_examples_of_the_document(self):
        house = House.corridor(3)
        self.assertEqual(
            form_of(house, [(0, "bell"), (2, "horn"), (1, "drum")]),
            (("drum", (1,), (("bell", (0,), ()), ("horn", (2,), ()))),),
        )
        self.assertEqual(
            form_of(house, [(2, "horn"), (0, "bell"), (1, "bell")]), (("bell", (0, 1), (("horn", (2,), ()),)),)
        )

    def test_against_the_definition(self):
        for house, log in form_trials(61):
            self.assertEqual(form_of(house, log), form_by_definition(house, log))

    def test_all_logs_of_three_rooms(self):
        for house in every_house(3):
            for log in all_logs(3, ["a", "b"]):
                self.assertEqual(form_of(house, log), form_by_definition(house, log))

    def test_alike_exactly_if_the_forms_are_equal(self):
        results = set()
        for house, first, second in trials(62):
            same = form_of(house, first) == form_of(house, second)
            self.assertIs(same, alike(house, first, second))
            results.add(same)
        self.assertEqual(results, {True, False})

    def test_one_room(self):
        house = House(1, [])
        self.assertEqual(form_of(house, []), ((None, (0,), ()),))
        self.assertEqual(form_of(house, [(0, "a"), (0, "b")]), (("b", (0,), ()),))

    def test_silent_form(self):
        self.assertEqual(silent_form(House(1, [])), ((None, (0,), ()),))
        self.assertEqual(silent_form(House(4, [(1, 3)])), ((None, (0,), ()), (None, (1, 3), ()), (None, (2,), ())))
        for house in every_house(4):
            self.assertEqual(silent_form(house), form_of(house, []))
            self.assertEqual(silent_form(house), tuple((None, piece, ()) for piece in pieces_of(house, range(4))))
        self.assertEqual(silent_form(House.full(12)), ((None, tuple(range(12)), ()),))

    def test_rooms_that_are_not_called(self):
        house = House.corridor(3)
        self.assertEqual(form_of(house, [(1, "a")]), (("a", (1,), ((None, (0,), ()), (None, (2,), ()))),))
        self.assertEqual(form_of(house, [(0, "a")]), (("a", (0,), ((None, (1, 2), ()),)),))
        self.assertEqual(form_of(House(3, [(0, 2)]), [(1, "a")]), ((None, (0, 2), ()), ("a", (1,), ())))

    def test_equal_words_in_several_rooms(self):
        house = House.corridor(3)
        self.assertEqual(form_of(house, [(0, "a"), (1, "a"), (2, "a")]), (("a", (0, 1, 2), ()),))
        self.assertEqual(form_of(house, [(0, "a"), (1, "b"), (2, "a")]), (("a", (2,), (("b", (1,), (("a", (0,), ()),)),)),))
        self.assertEqual(form_of(house, [(1, "b"), (0, "a"), (2, "a")]), (("a", (0, 2), (("b", (1,), ()),)),))
        self.assertEqual(form_of(house, [(0, "a"), (2, "a")]), (("a", (0, 2), ((None, (1,), ()),)),))

    def test_the_full_house_of_twelve_rooms(self):
        house = House.full(12)
        log = [(room, ALPHABET[room]) for room in range(12)]
        wanted = ()
        for room in range(12):
            wanted = ((ALPHABET[room], (room,), wanted),)
        self.assertEqual(form_of(house, log), wanted)
        self.assertEqual(form_of(house, log[::-1] * 4 + log), wanted)
        same = [(room, "a") for room in range(12)]
        self.assertEqual(form_of(house, same[::-1]), (("a", tuple(range(12)), ()),))
        turns = [(room, "ab"[room % 2]) for room in range(12)]
        wanted = ()
        for room in range(12):
            wanted = (("ab"[room % 2], (room,), wanted),)
        self.assertEqual(form_of(house, turns), wanted)
        halves = [(room, "ab"[room // 6]) for room in range(12)]
        self.assertEqual(form_of(house, halves), (("b", (6, 7, 8, 9, 10, 11), (("a", (0, 1, 2, 3, 4, 5), ()),)),))

    def test_sixty_calls_in_twelve_rooms(self):
        dice = random.Random(63)
        for house in (House.corridor(12), House.full(12), House.star(12)):
            log = a_log(dice, 12, 60)
            form = form_of(house, log)
            self.assertIs(is_form(house, form), True)
            self.assertIs(alike(house, log, plain_log(form)), True)
            self.assertEqual(form_of(house, plain_log(form)), form)
        log = [(room, "ab"[room % 2]) for room in range(12)]
        self.assertEqual(len(form_of(House(12, []), log * 5)), 12)


class ReadingFormsTest(unittest.TestCase):
    def test_block_rooms(self):
        form = form_of(House.corridor(6), [(4, "a"), (2, "b"), (0, "a"), (3, "a")])
        self.assertEqual([block_rooms(block) for block in form], [(0, 1, 2, 3, 4, 5)])
        for house, log in form_trials(64):
            form = form_of(house, log)
            self.assertEqual([block_rooms(block) for block in form], pieces_of(house, range(house.rooms)))
            for block in blocks(form):
                self.assertEqual(block_rooms(block), tuple(rooms_of(block)))

    def test_blocks(self):
        inner = ("bell", (0,), ()), ("horn", (2,), ())
        form = (("drum", (1,), inner), ("x", (3,), ()))
        self.assertEqual(blocks(form), [form[0], inner[0], inner[1], form[1]])
        deep = (("a", (3,), (("b", (1,), (("c", (0,), ()),)), (None, (2,), ()))),)
        self.assertEqual([block[1] for block in blocks(deep)], [(3,), (1,), (0,), (2,)])
        for house, log in form_trials(65):
            form = form_of(house, log)
            self.assertEqual(blocks(form), blocks_in_order(form))

    def test_each_room_is_a_top_of_one_block(self):
        for house, log in form_trials(66):
            tops = [room for block in blocks(form_of(house, log)) for room in block[1]]
            self.assertEqual(sorted(tops), list(range(house.rooms)))

    def test_words_by_form(self):
        self.assertEqual(words_by_form((("drum", (1,), (("bell", (0,), ()), (None, (2,), ()))),)), ["bell", "drum", None])
        for house, log in form_trials(67):
            self.assertEqual(words_by_form(form_of(house, log)), words_of(house, log))

    def test_word_by_form(self):
        for house, log in form_trials(68):
            form = form_of(house, log)
            for part in parts_of(house):
                self.assertEqual(word_by_form(form, part), word_in(log, part))
                self.assertEqual(word_by_form(form, list(part[::-1])), word_in(log, part))

    def test_plain_log(self):
        self.assertEqual(plain_log(silent_form(House.full(4))), [])
        self.assertEqual(
            plain_log((("drum", (1,), (("bell", (0,), ()), (None, (2,), ()))), (None, (3,), ()), ("a", (4, 5), ()))),
            [(0, "bell"), (1, "drum"), (4, "a"), (5, "a")],
        )
        self.assertEqual(
            plain_log((("a", (3,), (("b", (1,), (("c", (0,), ()),)), ("d", (2,), ()))),)),
            [(0, "c"), (1, "b"), (2, "d"), (3, "a")],
        )

    def test_the_form_of_the_plain_log(self):
        for house, log in form_trials(69):
            form = form_of(house, log)
            plain = plain_log(form)
            self.assertEqual(form_of(house, plain), form)
            self.assertEqual(len({room for room, _ in plain}), len(plain))
            self.assertIs(alike(house, plain, log), True)

    def test_what_is_said_of_forms(self):
        for house, log in form_trials(70):
            for word, _, inner in blocks(form_of(house, log)):
                self.assertFalse(word is None and inner)
                self.assertNotIn(word, [block[0] for block in inner])


class IsFormTest(unittest.TestCase):
    house = House.corridor(3)
    form = (("drum", (1,), (("bell", (0,), ()), (None, (2,), ()))),)

    def check(self, house, form, wanted):
        self.assertIs(is_form(house, form), wanted, form)

    def test_forms_of_logs(self):
        for house, log in form_trials(71):
            self.check(house, form_of(house, log), True)

    def test_exactly_the_forms_of_logs(self):
        # Every way to nest blocks over all divisions of the rooms, with two words and None.
        for rooms in (1, 2, 3):
            tried = list(nestings(tuple(range(rooms)), ["a", "b", None]))
            for house in every_house(rooms):
                found = {form_of(house, log) for log in all_logs(rooms, ["a", "b"])}
                self.assertEqual({form for form in tried if is_form(house, form)}, found)

    def test_forms_that_break_one_rule(self):
        self.check(self.house, self.form, True)
        bell, silent = ("bell", (0,), ()), (None, (2,), ())
        for form in (
            (),
            (("drum", (), (bell, silent)),),
            (("drum", (), (("bell", (0, 1, 2), ()),)),),
            (("drum", (1,), (("bell", (), (("horn", (0,), ()),)), silent)),),
            ((None, (), ()),),
            ((None, (), self.form),),
            ((None, (0, 1), ()),),
            ((None, (0, 1, 2), (bell,)),),
            ((None, (0, 1, 2), (silent,)),),
            ((None, (0, 1, 2), ((None, (0, 1, 2), ()),)),),
            (("drum", (1,), (bell, (None, (2,), (bell,)))),),
            (("drum", (0,), ((None, (1,), ()),)),),
            (("drum", (0,), ((None, (2,), ()),)),),
            (("drum", (), ()), bell, silent),
            (("drum", (1, 1), (bell, silent)),),
            (("drum", (1, 0), (silent,)),),
            (("drum", (1,), (silent, bell)),),
            (("drum", (1,), (bell,)),),
            (("drum", (1,), (silent,)),),
            (("drum", (1,), ()),),
            (("drum", (1,), (bell, silent, silent)),),
            (("drum", (1,), (bell, silent, (None, (3,), ()))),),
            (("drum", (1,), (("bell", (0, 2), ()),)),),
            (("drum", (1,), (("drum", (0,), ()), silent)),),
            (("drum", (1,), (bell, ("drum", (2,), ()))),),
            (("drum", (0,), (("bell", (1,), ()), silent)),),
            (("drum", (0, 1), (bell, silent)),),
            (("drum", (1,), (("bell", (0, 1), ()), silent)),),
            ((None, (1,), (bell, silent)),),
            ((None, (0, 1), (silent,)),),
            ((None, (0, 1), ()), silent),
            (bell, ("drum", (1,), ()), silent),
            (("drum", (1, 3), (bell, silent)),),
            (("drum", (1,), (("bell", (-1,), ()), silent)),),
            (("drum", (1,), (("bell", (0,), ()), (None, (10 ** 30,), ()))),),
            (("drum", (-1, 1), (bell, silent)),),
            self.form + self.form,
            (("drum", (1,), (bell, silent)), bell),
        ):
            self.check(self.house, form, False)

    def test_words(self):
        house = House(1, [])
        for word in ("a", "z", "abcdefgh", "zzzzzzzz", "bell"):
            self.check(house, ((word, (0,), ()),), True)
        for word in ("", "abcdefghi", "Bell", "bel l", "-", "bell1", "be-ll", " bell", "bell\n", "{", "`", "A", "a" * 99):
            self.check(house, ((word, (0,), ()),), False)
            self.check(House.corridor(2), (("b", (0,), ((word, (1,), ()),)),), False)

    def test_the_order_of_the_outermost_blocks(self):
        house = House(3, [(0, 2)])
        self.check(house, (("a", (0, 2), ()), ("a", (1,), ())), True)
        self.check(house, (("a", (1,), ()), ("a", (0, 2), ())), False)
        self.check(house, (("a", (0,), (("b", (2,), ()),)), (None, (1,), ())), True)
        self.check(house, (("a", (0, 1), ()), ("a", (2,), ())), False)
        self.check(house, (("a", (0, 1, 2), ()),), False)
        self.check(house, (("a", (0, 2), ()),), False)
        self.check(house, (("a", (0, 2), ()), ("a", (1,), ()), ("a", (1,), ())), False)

    def test_a_room_under_its_own_block(self):
        house = House.corridor(2)
        self.check(house, (("a", (0, 1), (("b", (1,), ()),)),), False)
        self.check(house, (("a", (0,), (("b", (1,), (("a", (0,), ()),)),)),), False)
        self.check(house, (("a", (0,), (("b", (1,), (("a", (1,), ()),)),)),), False)

    def test_deep_nesting(self):
        form = ()
        for depth in range(40):
            form = (("ab"[depth % 2], (depth,), form),)
        self.check(House.full(12), form, False)
        self.check(House(1, []), form, False)
        for rooms in (1, 2, 12):
            form = ()
            for depth in range(40):
                form = (("ab"[depth % 2], (depth % rooms,), form),)
            self.check(House.full(rooms), form, False)

    def test_the_full_house_of_twelve_rooms(self):
        form = ()
        for room in range(12):
            form = (("ab"[room % 2], (room,), form),)
        self.check(House.full(12), form, True)
        self.check(House.full(11), form, False)
        self.check(House.corridor(12), form, True)
        self.check(House.star(12), form, True)
        self.check(House(12, House.corridor(12).doors()[1:]), form, False)
        self.check(House.full(12), (("c", (0,), form),), False)


def divisions(rooms):
    """Each way to divide the rooms into groups, in any order of the groups."""
    if not rooms:
        yield ()
        return
    for count in range(len(rooms)):
        for others in itertools.combinations(rooms[1:], count):
            group = (rooms[0],) + others
            for rest in divisions(tuple(room for room in rooms if room not in group)):
                for at in range(len(rest) + 1):
                    yield rest[:at] + (group,) + rest[at:]


def nestings(rooms, words):
    """Each tuple of blocks over the rooms, right or wrong."""
    for groups in divisions(rooms):
        choices = [
            [
                (word, tops, inner)
                for word in words
                for count in range(1, len(group) + 1)
                for tops in itertools.combinations(group, count)
                for inner in nestings(tuple(room for room in group if room not in tops), words)
            ]
            for group in groups
        ]
        yield from itertools.product(*choices)


class CleanTest(unittest.TestCase):
    def test_lists(self):
        house = House.corridor(3)
        log = [(0, "bell"), (2, "horn"), (1, "drum"), (2, "horn")]
        form = form_of(house, log)
        check_clean(self, form_of, house, log)
        check_clean(self, silent_form, house)
        check_clean(self, block_rooms, form[0])
        check_clean(self, blocks, form)
        check_clean(self, words_by_form, form)
        check_clean(self, word_by_form, form, [1, 0])
        check_clean(self, plain_log, form)
        check_clean(self, is_form, house, form)
