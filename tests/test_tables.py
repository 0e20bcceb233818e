"""callsheard/tables.py: [28] and [29] and the interface."""

import itertools
import random
import unittest

from callsheard.errors import NoLog, TooLarge
from callsheard.forms import form_of, plain_log
from callsheard.house import House
from callsheard.tables import check_no_keeper, form_of_table, keepers, table_answer, table_of
from tests.support import check_clean, every_house, form_trials, parts_of, some_houses, word_in
from tests.test_forms import all_logs

WORDS = ["a", "b", None]


def keepers_by_definition(table, part):
    word = dict(table)[tuple(sorted(part))]
    return tuple(
        room for room in sorted(part)
        if all(other == word for lesser, other in table if room in lesser and set(lesser) <= set(part))
    )


def answer_by_definition(house, table, logs):
    """The answer about a table; logs are the possible tables with a log each."""
    words = dict(table)
    for part, word in table:
        if (word is None) != all(words[(room,)] is None for room in part):
            return ("silence", part)
    for part, word in table:
        if word is not None and not keepers_by_definition(table, part):
            return ("no keeper", part, tuple(
                [lesser for lesser, other in table if room in lesser and set(lesser) <= set(part) and other != word][0]
                for room in part
            ))
    return ("log", plain_log(form_of(house, logs[tuple(table)])))


def some_tables(seed):
    """Small houses with tables, most of them nearly those of a log."""
    dice = random.Random(seed)
    for house in itertools.chain(every_house(4), some_houses(seed, 5, 20), some_houses(seed + 1, 6, 10)):
        for _ in range(4):
            log = [(room, dice.choice("abc")) for room in dice.sample(range(house.rooms), dice.randrange(house.rooms + 1))]
            table = table_of(house, log)
            yield house, table
            for _ in range(2):
                at = dice.randrange(len(table))
                table[at] = (table[at][0], dice.choice(["a", "b", "c", None]))
                yield house, list(table)


class TableOfTest(unittest.TestCase):
    def test_example(self):
        self.assertEqual(
            table_of(House.corridor(3), [(0, "bell"), (2, "horn"), (1, "drum")]),
            [((0,), "bell"), ((1,), "drum"), ((2,), "horn"), ((0, 1), "drum"), ((1, 2), "drum"), ((0, 1, 2), "drum")],
        )
        self.assertEqual(table_of(House(1, []), []), [((0,), None)])

    def test_against_the_definition(self):
        for house, log in form_trials(91):
            self.assertEqual(table_of(house, log), [(part, word_in(log, part)) for part in parts_of(house)])

    def test_sixty_calls_in_six_rooms(self):
        house = House.full(6)
        log = [(room, "abc"[turn % 3]) for turn in range(10) for room in range(6)]
        self.assertEqual(table_of(house, log), [(part, "a") for part in parts_of(house)])
        self.assertEqual(len(table_of(house, log)), 63)


class KeepersTest(unittest.TestCase):
    def test_examples(self):
        table = table_of(House.corridor(3), [(2, "horn"), (0, "bell"), (1, "bell")])
        self.assertEqual(keepers(table, (0, 1, 2)), (0, 1))
        self.assertEqual(keepers(table, [2, 1, 0]), (0, 1))
        self.assertEqual(keepers(table, (2, 1)), (1,))
        self.assertEqual(keepers(table, (2,)), (2,))
        silent = table_of(House.corridor(3), [])
        self.assertEqual(keepers(silent, (2, 0, 1)), (0, 1, 2))

    def test_against_the_definition(self):
        dice = random.Random(92)
        for _, table in some_tables(92):
            for part, _ in table:
                mixed = list(part)
                dice.shuffle(mixed)
                self.assertEqual(keepers(table, mixed), keepers_by_definition(table, part))

    def test_none_and_a_word_are_not_the_same(self):
        table = [((0,), None), ((1,), "a"), ((0, 1), None)]
        self.assertEqual(keepers(table, (0, 1)), (0,))
        table = [((0,), None), ((1,), "a"), ((0, 1), "a")]
        self.assertEqual(keepers(table, (0, 1)), (1,))

    def test_a_part_without_keepers(self):
        self.assertEqual(keepers([((0,), "a"), ((1,), "b"), ((0, 1), "c")], (0, 1)), ())


class TableAnswerTest(unittest.TestCase):
    def test_each_table_of_a_house_with_three_rooms(self):
        for house in every_house(3):
            logs = {tuple(table_of(house, log)): log for log in all_logs(3, ["a", "b"])}
            parts = parts_of(house)
            for words in itertools.product(WORDS, repeat=len(parts)):
                table = list(zip(parts, words))
                answer = table_answer(house, table)
                self.assertEqual(answer[0] == "log", tuple(table) in logs)
                self.assertEqual(answer, answer_by_definition(house, table, logs))

    def test_some_tables(self):
        results = set()
        for house, table in some_tables(93):
            answer = table_answer(house, table)
            results.add(answer[0])
            if answer[0] == "log":
                self.assertEqual(table_of(house, answer[1]), table)
                self.assertEqual(plain_log(form_of(house, answer[1])), answer[1])
            else:
                self.assertEqual(answer, answer_by_definition(house, table, {}))
        self.assertEqual(results, {"log", "silence", "no keeper"})

    def test_silence_comes_first(self):
        house = House.corridor(3)
        table = table_of(house, [(0, "a"), (1, "b"), (2, "c")])
        table[3] = ((0, 1), "x")
        self.assertEqual(table_answer(house, table), ("no keeper", (0, 1), ((0,), (1,))))
        table[5] = ((0, 1, 2), None)
        self.assertEqual(table_answer(house, table), ("silence", (0, 1, 2)))
        table[4] = ((1, 2), None)
        self.assertEqual(table_answer(house, table), ("silence", (1, 2)))

    def test_a_word_where_all_is_silent(self):
        house = House.corridor(2)
        self.assertEqual(table_answer(house, [((0,), None), ((1,), None), ((0, 1), "a")]), ("silence", (0, 1)))
        self.assertEqual(table_answer(house, [((0,), None), ((1,), None), ((0, 1), None)]), ("log", []))
        self.assertEqual(table_answer(house, [((0,), None), ((1,), "a"), ((0, 1), None)]), ("silence", (0, 1)))

    def test_lesser_parts(self):
        house = House.corridor(3)
        table = [((0,), "a"), ((1,), "b"), ((2,), "a"), ((0, 1), "b"), ((1, 2), "b"), ((0, 1, 2), "a")]
        self.assertEqual(table_answer(house, table), ("no keeper", (0, 1, 2), ((0, 1), (1,), (1, 2))))

    def test_the_first_part_without_a_keeper(self):
        house = House(4, [(0, 1), (2, 3)])
        table = [((0,), "a"), ((1,), "b"), ((2,), "a"), ((3,), "b"), ((0, 1), "c"), ((2, 3), "c")]
        self.assertEqual(table_answer(house, table), ("no keeper", (0, 1), ((0,), (1,))))
        table[4] = ((0, 1), "a")
        self.assertEqual(table_answer(house, table), ("no keeper", (2, 3), ((2,), (3,))))

    def test_the_answer_has_the_plain_log(self):
        house = House.full(6)
        log = [(5, "a"), (3, "b"), (0, "c"), (3, "b")]
        self.assertEqual(table_answer(house, table_of(house, log)), ("log", plain_log(form_of(house, log))))


class FormOfTableTest(unittest.TestCase):
    def test_the_form_of_the_log(self):
        for house, log in form_trials(94):
            self.assertEqual(form_of_table(house, table_of(house, log)), form_of(house, log))

    def test_no_log(self):
        results = set()
        for house, table in some_tables(95):
            answer = table_answer(house, table)
            if answer[0] != "log":
                with self.assertRaises(NoLog) as caught:
                    form_of_table(house, table)
                self.assertEqual(caught.exception.part, answer[1])
                results.add(answer[0])
            else:
                self.assertEqual(form_of_table(house, table), form_of(house, answer[1]))
        self.assertEqual(results, {"silence", "no keeper"})

    def test_the_part_that_is_named(self):
        house = House.corridor(2)
        for table, part in (
            ([((0,), None), ((1,), "a"), ((0, 1), None)], (0, 1)),
            ([((0,), "a"), ((1,), "b"), ((0, 1), "c")], (0, 1)),
        ):
            with self.assertRaises(NoLog) as caught:
                form_of_table(house, table)
            self.assertEqual(caught.exception.part, part)


class LargeHousesTest(unittest.TestCase):
    def test_seven_and_more_rooms(self):
        for rooms in (7, 12):
            for house in (House(rooms, []), House.full(rooms)):
                for function, argument in (
                    (table_of, [(0, "a")]), (table_answer, []), (table_answer, [((0,), None)]), (form_of_table, []),
                    (form_of_table, [((0,), "a"), ((1,), "b"), ((0, 1), "c")]),
                ):
                    with self.assertRaises(TooLarge) as caught:
                        function(house, argument)
                    self.assertEqual(caught.exception.size, rooms)

    def test_six_rooms(self):
        house = House.full(6)
        log = [(room, "abcdef"[room]) for room in range(6)]
        self.assertEqual(form_of_table(house, table_of(house, log)), form_of(house, log))


class CheckNoKeeperTest(unittest.TestCase):
    table = [((0,), "a"), ((1,), "b"), ((2,), "a"), ((0, 1), "b"), ((1, 2), "b"), ((0, 1, 2), "a")]
    part = (0, 1, 2)

    def check(self, lesser, wanted, part=part):
        self.assertIs(check_no_keeper(self.table, part, lesser), wanted, lesser)

    def test_what_table_answer_gives(self):
        count = 0
        for house, table in some_tables(96):
            answer = table_answer(house, table)
            if answer[0] == "no keeper":
                self.assertIs(check_no_keeper(table, answer[1], answer[2]), True)
                self.assertIs(check_no_keeper(table, list(answer[1][::-1]), answer[2]), True)
                count += 1
        self.assertGreater(count, 20)

    def test_it_shows_that_there_is_none(self):
        self.check(((0, 1), (1,), (1, 2)), True)
        self.check(((0, 1), (0, 1), (1, 2)), True)
        self.check(((0, 1), (1, 2), (1, 2)), True)
        self.check(((0, 1), (1,), (1, 2)), True, part=[2, 0, 1])

    def test_tuples_that_break_one_rule(self):
        for lesser in (
            (),
            ((0, 1), (1,)),
            ((0, 1), (1,), (1, 2), (1, 2)),
            ((1, 2), (1,), (0, 1)),
            ((0, 1), (0,), (1, 2)),
            ((0,), (1,), (1, 2)),
            ((0, 1), (1,), (2,)),
            ((0, 1, 2), (1,), (1, 2)),
            ((1, 0), (1,), (1, 2)),
            ((0, 1), (1,), (2, 1)),
            ((0, 2), (1,), (1, 2)),
            ((0, 0, 1), (1,), (1, 2)),
            ((), (1,), (1, 2)),
            ((0, 1), (1, 3), (1, 2)),
        ):
            self.check(lesser, False)

    def test_a_part_outside(self):
        self.check(((0,), (1,)), False, part=(0, 1))
        self.check(((0,), (0, 1, 2)), False, part=(0, 1))
        table = [((0,), "a"), ((1,), "a"), ((2,), "a"), ((0, 1), "b"), ((1, 2), "b"), ((0, 1, 2), "a")]
        self.assertIs(check_no_keeper(table, (0, 1), ((0,), (1,))), True)
        self.assertIs(check_no_keeper(table, (0, 1), ((0,), (0, 1, 2))), False)

    def test_each_tuple_of_parts(self):
        parts = parts_of(House.ring(3))
        words = dict(zip(parts, ("a", None, "b", "b", "a", "a", "a")))
        table = list(words.items())
        for part in parts:
            for lesser in itertools.product(parts, repeat=len(part)):
                wanted = all(
                    room in entry and set(entry) <= set(part) and words[entry] != words[part]
                    for room, entry in zip(part, lesser)
                )
                self.assertIs(check_no_keeper(table, part, lesser), wanted)


class CleanTest(unittest.TestCase):
    def test_lists(self):
        house = House.corridor(2)
        table = [((0,), "a"), ((1,), "b"), ((0, 1), "b")]
        bad = [((0,), "a"), ((1,), "b"), ((0, 1), "c")]
        check_clean(self, table_of, house, [(0, "a"), (1, "b")])
        check_clean(self, keepers, list(table), [1, 0])
        check_clean(self, table_answer, house, list(table))
        check_clean(self, table_answer, house, list(bad))
        check_clean(self, form_of_table, house, list(table))
        check_clean(self, check_no_keeper, list(bad), [1, 0], ((0,), (1,)))
