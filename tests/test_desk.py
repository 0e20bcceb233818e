"""callsheard/desk.py: [84] to [87] and the interface."""

import copy
import itertools
import random
import unittest

from callsheard.desk import Desk
from callsheard.errors import (
    BadLook, BadQuestion, BadWord, Clash, Full, Known, NoDoor, NoRoom, NothingToRedo, NothingToUndo, Refused, TooLarge,
)
from callsheard.forms import form_of, silent_form
from callsheard.house import House
from callsheard.known import settle_form
from callsheard.looks import door_states, looks_answer
from callsheard.openings import best_question, count_openings, room_now
from tests.support import a_log, fitting_openings_of, heard, some_houses, spoil

HOUSE = House.corridor(3)
DEEDS = [("call", 0, "bell"), ("call", 2, "drum"), ("know", (0, 1), False), ("call", 1, "horn"),
         ("look", ("bell", "horn", "horn"))]


def snapshot(desk):
    return (desk.deeds(), list(desk), desk.length, desk.log(), desk.looks(), desk.known_doors(), redo_list(desk))


def redo_list(desk):
    """The deeds that can be redone, found on a desk of its own by redoing all of them in what_if."""
    found = []
    while True:
        try:
            desk.what_if([("redo",)] * (len(found) + 1), "length")
        except NothingToRedo:
            return len(found), tuple(found)
        found.append(repr(desk.what_if([("redo",)] * (len(found) + 1), "form", "length")))


def do(desk, deed):
    kind, *arguments = deed
    if kind == "look":
        return desk.look(list(arguments[0]))
    return {"call": desk.call, "know": desk.know, "undo": desk.undo, "redo": desk.redo}[kind](*arguments)


def error_of(test, function, *arguments):
    """The error that a refused deed raises."""
    with test.assertRaises(Refused) as caught:
        function(*arguments)
    return caught.exception


def parts_of(deeds):
    """The log, the looks and the known doors of standing deeds."""
    log = [(room, word) for kind, *rest in deeds if kind == "call" for room, word in [rest]]
    looks = []
    for at, deed in enumerate(deeds):
        if deed[0] == "look":
            looks.append((sum(1 for other in deeds[:at] if other[0] == "call"), list(deed[1])))
    known = [[deed[1] for deed in deeds if deed[0] == "know" and deed[2] is is_open] for is_open in (True, False)]
    return log, looks, (sorted(known[0]), sorted(known[1]))


class Model:
    """A desk by the rules alone: all openings are looked at."""

    def __init__(self, house):
        self.house = house
        self.standing = []
        self.undone = []

    def refusal(self, deed):
        """What a deed is refused with: the name of the error and its arguments, or None."""
        log, looks, (opened, shut) = parts_of(self.standing)
        if deed[0] == "undo":
            return None if self.standing else ("NothingToUndo",)
        if deed[0] == "redo":
            return None if self.undone else ("NothingToRedo",)
        if deed[0] == "call":
            if deed[1] not in range(self.house.rooms):
                return ("NoRoom", deed[1])
            return self.word_refusal(deed[2]) or (("Full",) if len(log) == 60 else None)
        if deed[0] == "look":
            if len(deed[1]) != self.house.rooms:
                return ("BadLook", -1)
            for place, word in enumerate(deed[1]):
                if word is not None and self.word_refusal(word):
                    return ("BadLook", place)
            if len(looks) == 8:
                return ("Full",)
        else:
            if deed[1] not in self.house.doors():
                return ("NoDoor", deed[1])
            if deed[1] in opened + shut:
                return ("Known", deed[1])
        log, looks, (opened, shut) = parts_of(self.standing + [deed])
        if not fitting_openings_of(self.house, log, looks, opened, shut):
            return ("Clash", looks_answer(self.house, log, looks, opened=opened, shut=shut))
        return None

    def word_refusal(self, word):
        good = 1 <= len(word) <= 8 and all("a" <= letter <= "z" for letter in word)
        return None if good else ("BadWord",)

    def do(self, deed):
        if deed[0] == "undo":
            self.undone.append(self.standing.pop())
        elif deed[0] == "redo":
            self.standing.append(self.undone.pop())
        else:
            self.standing.append(deed)
            self.undone = []


def told(error):
    return (type(error).__name__, *vars(error).values())


def random_deed(dice, house, truth, log):
    kind = dice.choice(["call"] * 5 + ["look", "look", "know", "undo", "undo", "redo"])
    if kind == "call":
        room = dice.choice(list(range(house.rooms)) * 4 + [-1, house.rooms])
        return ("call", room, dice.choice(["a", "b"] * 5 + ["", "A"]))
    if kind == "look":
        seen = heard(house, log, truth)
        if dice.random() < 0.2:
            seen[dice.randrange(house.rooms)] = dice.choice(["a", None, "Z", ""])
        return ("look", tuple(seen[:dice.choice([None] * 9 + [-1])]))
    if kind == "know":
        doors = house.doors() + [(1, 0), (0, 0), (house.rooms, 0)]
        door = dice.choice(doors)
        return ("know", door, (door in truth) != (dice.random() < 0.2))
    return (kind,)


class DeedsTest(unittest.TestCase):
    def test_against_the_rules_over_all_openings(self):
        dice = random.Random(1311)
        refusals = set()
        houses = [some_houses(1311 + rooms, rooms, count) for rooms, count in ((1, 2), (2, 4), (3, 15), (4, 12))]
        for house in itertools.chain(*houses):
            truth = [door for door in house.doors() if dice.random() < 0.5]
            desk, model = Desk(house), Model(house)
            for _ in range(25):
                deed = random_deed(dice, house, truth, desk.log())
                refusal = model.refusal(deed)
                if refusal is None:
                    model.do(deed)
                    self.assertEqual(do(desk, deed), len(model.standing))
                else:
                    self.assertEqual(told(error_of(self, do, desk, deed)), refusal)
                    refusals.add(refusal[0])
                self.assertEqual((desk.deeds(), list(desk)), (model.standing, model.standing))
                self.assertEqual(desk.length, len(model.standing))
                self.assertEqual((desk.log(), desk.looks(), desk.known_doors()), parts_of(model.standing))
            self.assertEqual(Desk.replayed(house, model.standing).deeds(), model.standing)
        names = {"NoRoom", "BadWord", "BadLook", "NoDoor", "Known", "Clash", "NothingToUndo", "NothingToRedo"}
        self.assertEqual(refusals, names)

    def test_some_deeds(self):
        desk = Desk(HOUSE)
        self.assertEqual((desk.deeds(), desk.length, list(desk), desk.known_doors()), ([], 0, [], ([], [])))
        self.assertEqual(desk.call(0, "bell"), 1)
        self.assertEqual(desk.call(2, "drum"), 2)
        self.assertEqual(desk.know((0, 1), False), 3)
        self.assertEqual(desk.call(1, "horn"), 4)
        self.assertEqual(desk.look(["bell", "horn", "horn"]), 5)
        self.assertEqual((desk.deeds(), list(desk), desk.length), (DEEDS, DEEDS, 5))
        self.assertEqual(desk.log(), [(0, "bell"), (2, "drum"), (1, "horn")])
        self.assertEqual(desk.looks(), [(3, ["bell", "horn", "horn"])])
        self.assertEqual(desk.known_doors(), ([], [(0, 1)]))
        self.assertEqual(desk.states(), ["shut", "open"])
        self.assertEqual([deed[0] for deed in desk], ["call", "call", "know", "call", "look"])
        self.assertEqual((desk.undo(), desk.undo(), desk.log()), (4, 3, [(0, "bell"), (2, "drum")]))
        self.assertEqual((desk.redo(), desk.deeds()), (4, DEEDS[:4]))
        self.assertEqual((desk.redo(), desk.deeds()), (5, DEEDS))

    def test_undo_down_to_nothing_and_redo_up_to_the_last_one(self):
        desk = Desk.replayed(HOUSE, DEEDS)
        self.assertEqual([desk.undo() for _ in DEEDS], [4, 3, 2, 1, 0])
        self.assertEqual(told(error_of(self, desk.undo)), ("NothingToUndo",))
        self.assertEqual((desk.deeds(), desk.log(), desk.looks(), desk.known_doors()), ([], [], [], ([], [])))
        for count in range(1, 6):
            self.assertEqual(desk.redo(), count)
            self.assertEqual(desk.deeds(), DEEDS[:count])
        self.assertEqual(told(error_of(self, desk.redo)), ("NothingToRedo",))
        self.assertEqual(desk.deeds(), DEEDS)

    def test_a_new_deed_behind_an_undo(self):
        for deed in (("call", 0, "a"), ("look", ("bell", "drum", "drum")), ("know", (1, 2), True)):
            desk = Desk.replayed(HOUSE, DEEDS[:2] + [("undo",), ("undo",), ("redo",), ("undo",)])
            if deed[0] == "look":
                desk = Desk.replayed(HOUSE, [("call", 0, "bell"), ("call", 1, "drum"), ("call", 2, "drum"), ("undo",)])
            before = desk.length
            self.assertEqual(do(desk, deed), before + 1)
            self.assertEqual(told(error_of(self, desk.redo)), ("NothingToRedo",))
            desk.undo()
            self.assertEqual(desk.redo(), before + 1)
            self.assertEqual(desk.deeds()[-1], deed)

    def test_a_refused_deed_leaves_the_deeds_to_redo(self):
        desk = Desk.replayed(HOUSE, DEEDS)
        desk.undo()
        desk.undo()
        known = [("know", (1, 0), True), ("know", (0, 1), True)]
        for refused in [("call", 3, "a"), ("call", 0, ""), ("look", ("a", "a"))] + known:
            before = snapshot(desk)
            error_of(self, do, desk, refused)
            self.assertEqual(snapshot(desk), before)
        self.assertEqual((desk.redo(), desk.redo(), desk.deeds()), (4, 5, DEEDS))

    def test_looks_after_no_call_and_after_all_calls(self):
        desk = Desk(HOUSE)
        desk.look([None, None, None])
        desk.call(0, "bell")
        desk.look(["bell", "bell", None])
        desk.look(["bell", "bell", None])
        desk.call(1, "horn")
        self.assertEqual(desk.looks(), [(0, [None] * 3), (1, ["bell", "bell", None]), (1, ["bell", "bell", None])])
        self.assertEqual(desk.states(), ["open", "shut"])
        wanted = ("Clash", ("clash", (1,), 1, None))
        self.assertEqual(told(error_of(self, desk.look, ["bell", "horn", None])), wanted)

    def test_one_room(self):
        desk = Desk(House(1, []))
        self.assertEqual((desk.form(), desk.states()), (((None, (0,), ()),), []))
        self.assertEqual((desk.opening_count(), desk.next_question()), (1, None))
        self.assertEqual((desk.call(0, "a"), desk.look(["a"]), desk.room_state(0)), (1, 2, ("sure", "a")))
        self.assertEqual(told(error_of(self, desk.look, ["b"])), ("Clash", ("clash", (0,), 1, 0)))
        self.assertEqual(told(error_of(self, desk.know, (0, 0), True)), ("NoDoor", (0, 0)))


class RefusedTest(unittest.TestCase):
    def test_calls(self):
        for room, word, wanted in (
            (3, "bell", ("NoRoom", 3)), (-1, "bell", ("NoRoom", -1)), (10 ** 20, "bell", ("NoRoom", 10 ** 20)),
            (3, "", ("NoRoom", 3)), (-1, "Bell", ("NoRoom", -1)), (0, "", ("BadWord",)), (2, "Bell", ("BadWord",)),
            (0, "abcdefghi", ("BadWord",)), (0, "a b", ("BadWord",)), (0, "-", ("BadWord",)), (0, "a1", ("BadWord",)),
        ):
            desk = Desk(HOUSE)
            self.assertEqual(told(error_of(self, desk.call, room, word)), wanted)
            self.assertEqual(desk.deeds(), [])

    def test_sixty_calls(self):
        desk = Desk(HOUSE)
        dice = random.Random(1316)
        for count, (room, word) in enumerate(a_log(dice, 3, 60), start=1):
            self.assertEqual(desk.call(room, word), count)
        before = snapshot(desk)
        self.assertEqual(told(error_of(self, desk.call, 3, "")), ("NoRoom", 3))
        self.assertEqual(told(error_of(self, desk.call, 0, "A")), ("BadWord",))
        self.assertEqual(told(error_of(self, desk.call, 0, "a")), ("Full",))
        self.assertEqual(snapshot(desk), before)
        desk.look(heard(HOUSE, desk.log(), [(1, 2)]))
        desk.undo()
        desk.undo()
        self.assertEqual(desk.call(0, "a"), 60)
        self.assertEqual(told(error_of(self, desk.call, 0, "a")), ("Full",))

    def test_looks(self):
        for seen, wanted in (
            ([], ("BadLook", -1)), ([None] * 2, ("BadLook", -1)), (["A"] * 4, ("BadLook", -1)),
            (["", "", "", ""], ("BadLook", -1)),
            ([None, "A", "B"], ("BadLook", 1)), (["", None, "B"], ("BadLook", 0)), (["a", "a", "abcdefghi"], ("BadLook", 2)),
            (["a", "-", "?"], ("BadLook", 1)), (["a", None, None], ("Clash", ("clash", (0,), 0, 0))),
            (["bell", "bell", "horn"], ("Clash", ("clash", (2,), 0, None))),
        ):
            desk = Desk.replayed(HOUSE, DEEDS[:1])
            self.assertEqual(told(error_of(self, desk.look, seen)), wanted)
            self.assertEqual(desk.deeds(), DEEDS[:1])

    def test_eight_looks(self):
        desk = Desk.replayed(HOUSE, DEEDS[:2])
        for count in range(3, 11):
            self.assertEqual(desk.look(["bell", "drum", "drum"]), count)
        before = snapshot(desk)
        self.assertEqual(told(error_of(self, desk.look, ["bell"])), ("BadLook", -1))
        self.assertEqual(told(error_of(self, desk.look, ["bell", "Drum", "drum"])), ("BadLook", 1))
        self.assertEqual(told(error_of(self, desk.look, ["bell", "drum", "drum"])), ("Full",))
        self.assertEqual(told(error_of(self, desk.look, ["horn", "horn", "horn"])), ("Full",))
        self.assertEqual(snapshot(desk), before)
        desk.undo()
        self.assertEqual(desk.look(["bell", "drum", "drum"]), 10)

    def test_clashes(self):
        desk = Desk.replayed(HOUSE, [("call", 0, "bell"), ("call", 2, "drum"), ("call", 1, "horn")])
        wanted = ("Clash", ("clash", (1, 2), 0, 1))
        self.assertEqual(told(error_of(self, desk.look, ["bell", "drum", "drum"])), wanted)
        desk.know((0, 1), True)
        wanted = ("Clash", ("apart", (0, 1), 0))
        self.assertEqual(told(error_of(self, desk.look, ["bell", "horn", "horn"])), wanted)
        desk.undo()
        desk.look(["bell", "horn", "horn"])
        self.assertEqual(told(error_of(self, desk.know, (0, 1), True)), wanted)
        wanted = ("Clash", ("clash", (2,), 0, 2))
        self.assertEqual(told(error_of(self, desk.know, (1, 2), False)), wanted)
        self.assertEqual((desk.know((0, 1), False), desk.know((1, 2), True)), (5, 6))

    def test_known_doors(self):
        house = House(4, [(0, 1), (1, 2), (2, 3), (0, 3)])
        desk = Desk(house)
        for door in ((1, 0), (0, 2), (0, 0), (4, 5), (-1, 0), (3, 0)):
            self.assertEqual(told(error_of(self, desk.know, door, True)), ("NoDoor", door))
        for door, is_open in (((2, 3), True), ((0, 3), False), ((0, 1), True)):
            desk.know(door, is_open)
            for again in (True, False):
                self.assertEqual(told(error_of(self, desk.know, door, again)), ("Known", door))
        self.assertEqual(desk.known_doors(), ([(0, 1), (2, 3)], [(0, 3)]))
        self.assertEqual(told(error_of(self, desk.know, (3, 2), True)), ("NoDoor", (3, 2)))
        self.assertEqual(desk.deeds(), [("know", (2, 3), True), ("know", (0, 3), False), ("know", (0, 1), True)])
        desk.undo()
        self.assertEqual(desk.know((0, 1), False), 3)
        self.assertEqual(desk.known_doors(), ([(2, 3)], [(0, 1), (0, 3)]))

    def test_kinds_of_errors(self):
        desk = Desk(HOUSE)
        for kind, function, arguments in (
            (NoRoom, desk.call, (3, "a")), (BadWord, desk.call, (0, "")), (BadLook, desk.look, ([],)),
            (Clash, desk.look, (["a", None, None],)), (NoDoor, desk.know, ((1, 0), True)), (NothingToUndo, desk.undo, ()),
            (NothingToRedo, desk.redo, ()), (NoRoom, desk.room_state, (3,)), (BadQuestion, desk.what_if, ([], "?")),
        ):
            self.assertIs(type(error_of(self, function, *arguments)), kind)
        desk.know((0, 1), True)
        self.assertIs(type(error_of(self, desk.know, (0, 1), True)), Known)
        for _ in range(8):
            desk.look([None] * 3)
        self.assertIs(type(error_of(self, desk.look, [None] * 3)), Full)


class ReplayedTest(unittest.TestCase):
    def test_undo_and_redo_among_the_deeds(self):
        deeds = [DEEDS[0], ("undo",), ("redo",), DEEDS[1], ("undo",), DEEDS[2], DEEDS[3], ("undo",)]
        desk = Desk.replayed(HOUSE, deeds)
        self.assertEqual(desk.deeds(), [DEEDS[0], DEEDS[2]])
        self.assertEqual((desk.redo(), desk.deeds()), (3, [DEEDS[0], DEEDS[2], DEEDS[3]]))
        self.assertEqual(Desk.replayed(HOUSE, []).deeds(), [])

    def test_a_refused_deed(self):
        for deeds, wanted in (
            ([("undo",)], ("NothingToUndo",)), (DEEDS + [("redo",)], ("NothingToRedo",)),
            (DEEDS[:2] + [("call", 5, "a"), ("call", 0, "")], ("NoRoom", 5)), ([("look", ("a",))], ("BadLook", -1)),
            (DEEDS[:3] + [("know", (0, 1), True)], ("Known", (0, 1))), ([("know", (2, 1), True)], ("NoDoor", (2, 1))),
        ):
            self.assertEqual(told(error_of(self, Desk.replayed, HOUSE, deeds)), wanted)

    def test_answers_depend_on_the_standing_deeds_alone(self):
        dice = random.Random(1317)
        for house in some_houses(1318, 4, 12):
            truth = [door for door in house.doors() if dice.random() < 0.5]
            desk = Desk(house)
            done = []
            for _ in range(20):
                deed = random_deed(dice, house, truth, desk.log())
                try:
                    do(desk, deed)
                    done.append(deed)
                except Refused:
                    pass
                others = (Desk.replayed(house, desk.deeds()), Desk.replayed(house, done))
                for other in others:
                    self.assertEqual(self.answers(other), self.answers(desk))
            self.assertEqual(snapshot(others[1]), snapshot(desk))

    def answers(self, desk):
        known = [desk.length, desk.deeds(), desk.log(), desk.looks(), desk.known_doors()]
        known += [desk.form(), desk.settled_form(), desk.states(), desk.opening_count(), desk.next_question()]
        return known + [desk.room_state(room) for room in range(4)]


class AnswersTest(unittest.TestCase):
    def test_against_the_other_modules(self):
        dice = random.Random(1319)
        for house in itertools.chain(some_houses(1320, 2, 3), some_houses(1321, 4, 15), some_houses(1322, 5, 6)):
            truth = [door for door in house.doors() if dice.random() < 0.5]
            desk = Desk(house)
            for _ in range(12):
                deed = random_deed(dice, house, truth, desk.log())
                try:
                    do(desk, deed)
                except Refused:
                    continue
                log, looks, (opened, shut) = parts_of(desk.deeds())
                known = {"opened": opened, "shut": shut}
                self.assertEqual(desk.form(), form_of(house, log))
                self.assertEqual(desk.settled_form(), settle_form(house, form_of(house, log), **known))
                self.assertEqual(desk.states(), door_states(house, log, looks, **known))
                if len(house.doors()) <= 10:
                    self.assertEqual(desk.opening_count(), count_openings(house, log, looks, **known))
                    self.assertGreater(desk.opening_count(), 0)
                    self.assertEqual(desk.next_question(), best_question(house, log, looks, **known))
                    for room in range(house.rooms):
                        self.assertEqual(desk.room_state(room), room_now(house, log, looks, room, **known))

    def test_large_houses(self):
        for house, size in ((House.corridor(7), 7), (House.full(12), 12), (House.full(6), 15)):
            desk = Desk(house)
            desk.call(1, "a")
            desk.know((0, 1), True)
            desk.look(["a"] * 2 + [None] * (house.rooms - 2))
            self.assertEqual((len(desk.states()), len(desk.form())), (house.door_count, 1))
            for function, arguments in (
                (desk.opening_count, ()), (desk.next_question, ()), (desk.room_state, (0,)),
                (desk.what_if, ([], "opening_count")),
            ):
                with self.assertRaises(TooLarge) as caught:
                    function(*arguments)
                self.assertEqual(caught.exception.size, size)
            for room in (-1, house.rooms, 10 ** 9):
                self.assertEqual(told(error_of(self, desk.room_state, room)), ("NoRoom", room))

    def test_room_state_of_no_room(self):
        for room in (-1, 3, -3, 100):
            self.assertEqual(told(error_of(self, Desk(HOUSE).room_state, room)), ("NoRoom", room))

    def test_clean(self):
        desk = Desk.replayed(HOUSE, DEEDS)
        wanted = copy.deepcopy(snapshot(desk))
        asked = lambda: desk.what_if([], "states", "form")
        for make in (desk.deeds, desk.log, desk.looks, desk.known_doors, desk.states, asked):
            before = copy.deepcopy(make())
            spoil(make())
            self.assertEqual(make(), before)
            self.assertEqual(snapshot(desk), wanted)
        known = desk.known_doors()
        known[0].append((9, 9))
        self.assertEqual(desk.known_doors(), ([], [(0, 1)]))
        seen = ["bell", "horn", "horn"]
        desk.look(seen)
        self.assertEqual(seen, ["bell", "horn", "horn"])
        seen[0] = "drum"
        self.assertEqual((desk.looks()[-1], desk.deeds()[-1]), ((3, ["bell", "horn", "horn"]), DEEDS[-1]))
        desk.looks()[-1][1][0] = "drum"
        self.assertEqual(desk.looks()[-1], (3, ["bell", "horn", "horn"]))
        deeds = list(DEEDS)
        desk = Desk.replayed(HOUSE, deeds)
        deeds.clear()
        self.assertEqual(desk.deeds(), DEEDS)
        deeds = [("undo",), ("undo",)]
        desk.what_if(deeds, "length")
        self.assertEqual((deeds, desk.deeds()), ([("undo",), ("undo",)], DEEDS))
        for deed in desk:
            self.assertIs(type(deed), tuple)
        self.assertEqual([type(deed[1]) for deed in desk if deed[0] == "look"], [tuple])
        error = error_of(self, desk.look, ["bell", "drum", "drum"])
        self.assertEqual(desk.deeds(), DEEDS)
        looks = desk.looks() + [(3, ["bell", "drum", "drum"])]
        self.assertEqual(error.answer, looks_answer(HOUSE, desk.log(), looks, shut=[(0, 1)]))

    def test_two_desks_of_one_house(self):
        one, other = Desk(HOUSE), Desk(HOUSE)
        one.call(0, "a")
        self.assertEqual((one.length, other.length, other.log()), (1, 0, []))


class WhatIfTest(unittest.TestCase):
    def test_against_another_desk(self):
        dice = random.Random(1323)
        outcomes = set()
        for house in itertools.chain(some_houses(1324, 3, 10), some_houses(1325, 4, 20)):
            truth = [door for door in house.doors() if dice.random() < 0.5]
            desk = Desk(house)
            for _ in range(12):
                try:
                    do(desk, random_deed(dice, house, truth, desk.log()))
                except Refused:
                    pass
            for _ in range(dice.randrange(min(desk.length, 3) + 1)):
                desk.undo()
            more = [random_deed(dice, house, truth, desk.log()) for _ in range(dice.randrange(4))]
            before = snapshot(desk)
            expected = self.outcome(house, desk, more)
            try:
                found = desk.what_if(more, "length", "form", "states", "opening_count", "next_question", "length")
            except Refused as error:
                found = told(error)
            self.assertEqual(found, expected)
            self.assertEqual(snapshot(desk), before)
            outcomes.add(type(found))
        self.assertEqual(outcomes, {list, tuple})

    def outcome(self, house, desk, more):
        """What the deeds give on a desk of their own, with the same deeds to redo."""
        standing = desk.deeds()
        later = []
        while True:
            try:
                desk.redo()
            except NothingToRedo:
                break
            later.append(desk.deeds()[-1])
        for _ in later:
            desk.undo()
        other = Desk.replayed(house, standing + later + [("undo",)] * len(later))
        try:
            for deed in more:
                do(other, deed)
        except Refused as error:
            return told(error)
        answer = [other.length, other.form(), other.states(), other.opening_count(), other.next_question()]
        return answer + [other.length]

    def test_some_questions(self):
        desk = Desk.replayed(HOUSE, DEEDS[:2])
        self.assertEqual(desk.what_if([]), [])
        self.assertEqual(desk.what_if([("call", 1, "horn")]), [])
        self.assertEqual(desk.what_if([], "length", "length"), [2, 2])
        self.assertEqual(desk.what_if(DEEDS[2:], "states", "opening_count", "next_question"), [["shut", "open"], 1, None])
        self.assertEqual(desk.what_if([], "states", "opening_count", "next_question"), [["free", "free"], 4, (0, 1)])
        self.assertEqual(desk.what_if([("undo",), ("undo",)], "form"), [silent_form(HOUSE)])
        self.assertEqual(desk.what_if([("undo",), ("redo",)], "length"), [2])
        self.assertEqual(desk.deeds(), DEEDS[:2])

    def test_the_deeds_to_redo_stay(self):
        desk = Desk.replayed(HOUSE, DEEDS)
        desk.undo()
        desk.undo()
        self.assertEqual(desk.what_if([("redo",)], "length"), [4])
        self.assertEqual(desk.what_if([("call", 0, "a")], "length"), [4])
        self.assertEqual(desk.what_if([("undo",), ("undo",), ("undo",), ("call", 0, "a")], "length"), [1])
        self.assertEqual((desk.redo(), desk.redo(), desk.deeds()), (4, 5, DEEDS))

    def test_refused_deeds_and_questions(self):
        desk = Desk.replayed(HOUSE, DEEDS)
        desk.undo()
        before = snapshot(desk)
        for deeds, questions, wanted in (
            ([("call", 0, "a"), ("call", 3, "a")], ["length"], ("NoRoom", 3)),
            ([("call", 0, "a"), ("undo",), ("undo",), ("redo",), ("redo",), ("redo",)], [], ("NothingToRedo",)),
            ([("undo",)] * 5, ["nonsense"], ("NothingToUndo",)),
            ([("look", ("bell", "drum", "drum"))], ["length"], ("Clash", ("clash", (1, 2), 0, 1))),
            ([("know", (0, 1), False)], [], ("Known", (0, 1))),
            ([], ["nonsense"], ("BadQuestion", "nonsense")), ([("undo",)], ["length", ""], ("BadQuestion", "")),
            ([], ["log"], ("BadQuestion", "log")), ([], ["Length", "other"], ("BadQuestion", "Length")),
        ):
            self.assertEqual(told(error_of(self, desk.what_if, deeds, *questions)), wanted)
            self.assertEqual(snapshot(desk), before)

    def test_questions_in_their_turn(self):
        desk = Desk(House.corridor(7))
        desk.call(0, "a")
        desk.call(1, "a")
        desk.undo()
        before = snapshot(desk)
        for question in ("opening_count", "next_question"):
            with self.assertRaises(TooLarge) as caught:
                desk.what_if([("redo",)], "form", question, "nonsense")
            self.assertEqual(caught.exception.size, 7)
            self.assertEqual(told(error_of(self, desk.what_if, [], "nonsense", question)), ("BadQuestion", "nonsense"))
            self.assertEqual(snapshot(desk), before)
        self.assertEqual(desk.what_if([("redo",)], "length", "states"), [2, ["free"] * 6])
