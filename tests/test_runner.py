"""callsheard/runner.py: [92], [93] with its example, and the interface; [91] where a program is not run."""

import random
import unittest

from callsheard.alike import parting_path
from callsheard.commands import format_program, read_program
from callsheard.desk import Desk
from callsheard.errors import (
    BadLine, BadLook, Clash, Full, Known, NoDoor, NoRoom, NothingToRedo, NothingToUndo, Refused, TooLarge,
)
from callsheard.forms import form_of
from callsheard.formtext import format_form
from callsheard.further import further_calls
from callsheard.house import House
from callsheard.openings import word_counts
from callsheard.orders import count_orders
from callsheard.runner import run
from tests.support import heard, some_houses

CALLS = ["call 0 bell", "call 2 horn", "call 1 drum"]
FULL_FIVE = "house 5 " + " ".join(f"{a}-{b}" for a in range(5) for b in range(a + 1, 5))
FULL_SIX = "house 6 " + " ".join(f"{a}-{b}" for a in range(6) for b in range(a + 1, 6))


def output(*lines):
    return run("\n".join(lines))


def corridor(*lines):
    return output("house 3 0-1 1-2", *lines)


REFUSALS = [
    (NoRoom, "room"), (BadLook, "look"), (Full, "full"), (Clash, "clash"), (NoDoor, "door"), (Known, "known"),
    (NothingToUndo, "undo"), (NothingToRedo, "redo"),
]


class Stop(Exception):
    pass


class Reference:
    """A program run deed by deed: each answer comes from a desk on which all deeds were done anew."""

    def __init__(self, rooms, doors):
        self.house = House(rooms, doors)
        self.deeds = []
        self.kept = {}
        self.lines = []
        self.steps = 0

    def run(self, commands):
        try:
            self.block(commands)
        except Stop:
            self.lines.append("stopped")
        return self.lines

    def block(self, commands):
        for command in commands:
            if self.steps == 300:
                raise Stop()
            self.steps += 1
            self.command(*command)

    def command(self, name, *arguments):
        desk = Desk.replayed(self.house, self.deeds)
        if name == "try":
            before = (list(self.deeds), dict(self.kept))
            self.block(arguments[0])
            self.deeds, self.kept = before
        elif name == "times":
            for _ in range(arguments[0]):
                self.block(arguments[1])
        elif name == "save":
            self.kept[arguments[0]] = desk.log()
        elif name in ("call", "look", "open", "shut", "undo", "redo"):
            self.deed((name, *arguments))
        else:
            try:
                self.lines.append(self.answer(desk, name, *arguments))
            except NoRoom:
                self.lines.append("refused room")
            except TooLarge:
                self.lines.append("refused large")

    def deed(self, deed):
        if deed[0] in ("open", "shut"):
            deed = ("know", deed[1], deed[0] == "open")
        try:
            Desk.replayed(self.house, self.deeds + [deed])
            self.deeds.append(deed)
        except Refused as error:
            self.lines.append("refused " + dict(REFUSALS)[type(error)])

    def answer(self, desk, name, *arguments):
        log, form = desk.log(), desk.form()
        if name == "form":
            return f"form {format_form(form)}"
        if name == "orders":
            return f"orders {count_orders(self.house, form)}"
        if name == "doors":
            return "doors" + "".join(f" {a}-{b}:{state}" for (a, b), state in zip(self.house.doors(), desk.states()))
        if name == "count":
            return f"count {desk.opening_count()}"
        if name == "ask":
            question = desk.next_question()
            return "ask -" if question is None else "ask {}-{}".format(*question)
        if name == "room":
            kind = desk.room_state(arguments[0])[0]
            opened, shut = desk.known_doors()
            counts = word_counts(self.house, log, desk.looks(), arguments[0], opened=opened, shut=shut)
            return " ".join(["room", kind] + ["-" if word is None else word for word, _ in counts])
        if arguments[0] not in self.kept:
            return "refused name"
        wished = self.kept[arguments[0]]
        if name == "alike":
            path = parting_path(self.house, wished, log)
            return "alike" if path is None else " ".join(["apart"] + [str(room) for room in path])
        calls = further_calls(self.house, log, form_of(self.house, wished))
        return "never" if calls is None else " ".join(["again"] + [f"{room}:{word}" for room, word in calls])


def random_commands(dice, house, depth=0):
    commands = []
    truth = [door for door in house.doors() if dice.random() < 0.5]
    for _ in range(dice.randrange(2, 14)):
        kinds = "look open shut undo redo form doors count ask orders room save alike again block"
        kind = dice.choice(["call"] * 5 + kinds.split())
        room, name = dice.randrange(house.rooms + (dice.random() < 0.1)), dice.choice(["a", "b", "c"])
        if kind == "call":
            commands.append((kind, room, dice.choice(["bell", "horn"])))
        elif kind == "look":
            log = [command[1:] for command in commands if command[0] == "call"]
            seen = heard(house, [call for call in log if call[0] < house.rooms], truth)
            commands.append((kind, tuple(seen[:len(seen) - (dice.random() < 0.1)] or ["a"])))
        elif kind in ("open", "shut"):
            doors = house.doors() * 3 + [(1, 0), (0, 0)]
            commands.append((kind, dice.choice(doors)))
        elif kind in ("save", "alike", "again"):
            commands.append((kind, name))
        elif kind == "room":
            commands.append((kind, room))
        elif kind == "block" and depth < 3:
            inner = random_commands(dice, house, depth + 1)
            commands.append(dice.choice([("try", inner), ("times", dice.choice([0, 1, 2, 3, 9]), inner)]))
        elif kind != "block":
            commands.append((kind,))
    return commands


class RunTest(unittest.TestCase):
    def test_examples_of_the_document(self):
        text = 'house 3 0-1 1-2\ncall 0 bell\ncall 2 horn\ncall 1 drum\nform\nlook bell drum drum\ndoors'
        self.assertEqual(run(text), ["form drum[1](bell[0] horn[2])", "doors 0-1:shut 1-2:open"])
        found = corridor(*CALLS, "form", "look bell drum drum", "doors", "undo", "times 2", "count", "end", "undo", "room 0")
        self.assertEqual(found, [
            "form drum[1](bell[0] horn[2])", "doors 0-1:shut 1-2:open", "count 4", "count 4", "room open bell horn",
        ])

    def test_against_the_same_deeds_on_desks(self):
        dice = random.Random(1341)
        seen = set()
        for trial in range(400):
            (house,) = some_houses(1342 + trial, dice.choice([1, 2, 3, 3, 4, 4, 7]), 1)
            commands = random_commands(dice, house)
            text = format_program(house.rooms, house.doors(), commands)
            self.assertEqual(read_program(text)[2], commands)
            found = run(text)
            self.assertEqual(found, Reference(house.rooms, house.doors()).run(commands))
            seen |= {tuple(line.split(" ")[:2]) for line in found}
        wanted = {("refused", word) for word in "room look clash door known undo redo large name".split()}
        wanted |= {("stopped",), ("ask", "-"), ("room", "sure"), ("room", "open"), ("alike",), ("never",), ("again",)}
        self.assertLessEqual(wanted, seen)
        self.assertLessEqual({"form", "doors", "count", "orders", "apart"}, {line[0] for line in seen})

    def test_form_and_orders(self):
        self.assertEqual(corridor("form", "orders"), ["form -[0,1,2]", "orders 1"])
        self.assertEqual(corridor(*CALLS, "form", "orders"), ["form drum[1](bell[0] horn[2])", "orders 2"])
        self.assertEqual(output("house 3", *CALLS, "form", "orders"), ["form bell[0] drum[1] horn[2]", "orders 6"])
        self.assertEqual(output("house 12", *[f"call {room} a" for room in range(12)], "orders"), ["orders 479001600"])

    def test_doors_count_and_ask(self):
        self.assertEqual(corridor("doors", "count", "ask"), ["doors 0-1:free 1-2:free", "count 4", "ask 0-1"])
        self.assertEqual(corridor("open 0-1", "doors", "count", "ask"), ["doors 0-1:open 1-2:free", "count 2", "ask 1-2"])
        found = corridor("open 0-1", "shut 1-2", "doors", "count", "ask")
        self.assertEqual(found, ["doors 0-1:open 1-2:shut", "count 1", "ask -"])
        self.assertEqual(output("house 2", "doors", "count", "ask"), ["doors", "count 1", "ask -"])
        # The doors of the first line may come in any order, with either room first.
        self.assertEqual(output("house 3 2-1 1-0", "doors", "shut 1-2", "doors"),
                         ["doors 0-1:free 1-2:free", "doors 0-1:free 1-2:shut"])

    def test_large_houses(self):
        for house in ("house 7", "house 12 0-1", FULL_SIX):
            found = output(house, "count", "ask", "room 0", "room 50", "call 0 a", "count", "form", "orders", "doors")
            self.assertEqual(found[:5], ["refused large"] * 3 + ["refused room", "refused large"])
            self.assertEqual([line.split(" ")[0] for line in found[5:]], ["form", "orders", "doors"])
        self.assertEqual(output(FULL_FIVE, "count"), ["count 1024"])

    def test_rooms(self):
        self.assertEqual(corridor("room 0", "room 3", "room 99"), ["room sure -", "refused room", "refused room"])
        self.assertEqual(corridor("call 0 bell", "room 0", "room 2"), ["room sure bell", "room open - bell"])
        found = corridor("call 1 horn", "call 2 drum", "call 0 bell", "room 1", "room 2")
        self.assertEqual(found, ["room open bell drum horn", "room open bell drum"])
        self.assertEqual(corridor("call 2 horn", "call 0 bell", "room 1"), ["room open - bell horn"])

    def test_kept_logs(self):
        self.assertEqual(corridor("alike a", "again a"), ["refused name", "refused name"])
        found = corridor("save a", "alike a", "again a", "call 0 bell", "alike a", "again a", "save b", "undo", "again b")
        self.assertEqual(found, ["alike", "again", "apart 0", "never", "again 0:bell"])
        found = corridor("call 1 drum", "save a", "call 0 bell", "call 2 horn", "save a", "undo", "undo", "call 2 horn",
                         "call 0 bell", "alike a", "again a", "alike b")
        self.assertEqual(found, ["apart 0 1 2", "again 2:horn", "refused name"])
        found = corridor(*CALLS, "save a", "undo", "undo", "undo", "again a", "call 1 drum", "call 0 bell", "again a")
        self.assertEqual(found, ["again 0:bell 2:horn 1:drum", "again 2:horn 1:drum"])
        # The kept log is the first one of the two; the path does not tell the difference.
        self.assertEqual(corridor("save a", "call 2 horn", "save b", "undo", "alike b"), ["apart 2"])

    def test_refused_deeds(self):
        for lines, word in (
            (["call 3 bell"], "room"), (["look bell"], "look"), (["look - - - -"], "look"), (["look a - -"], "clash"),
            (["open 1-0"], "door"), (["shut 0-2"], "door"), (["open 0-1", "shut 0-1"], "known"), (["undo"], "undo"),
            (["open 0-1", "open 0-1"], "known"), (["redo"], "redo"),
            (["call 0 a"] * 61, "full"), (["look - - -"] * 9, "full"), (["look - - -"] * 8 + ["look a"], "look"),
            (["call 0 a"] * 60 + ["call 3 a"], "room"), (["call 0 a", "look a - -", "open 0-1"], "clash"),
            (["call 0 a", "look a a -", "shut 0-1"], "clash"), (["call 0 a", "undo", "call 0 a", "redo"], "redo"),
        ):
            self.assertEqual(corridor(*lines), ["refused " + word], lines)
        self.assertEqual(corridor("call 3 bell", "call 0 bell", "undo", "call 9 a", "redo", "form"),
                         ["refused room", "refused room", "form bell[0](-[1,2])"])

    def test_nothing_is_run_before_a_bad_line(self):
        for text, number, reason in (
            ("", 1, "house"), ("house 3\nform\nfrom", 3, "command"), ("house 3\nform\ntry", 4, "block"),
            ("house 13\nform", 1, "house"), ("house 3\nform\n", 3, "command"),
        ):
            with self.assertRaises(BadLine) as caught:
                run(text)
            self.assertEqual((caught.exception.number, caught.exception.reason), (number, reason))

    def test_runs_do_not_touch_each_other(self):
        text = "house 3 0-1 1-2\ncall 0 bell\nsave a\nform\nalike a\nredo"
        wanted = ["form bell[0](-[1,2])", "alike", "refused redo"]
        found = run(text)
        self.assertEqual(found, wanted)
        found.clear()
        self.assertEqual(run(text), wanted)
        self.assertEqual(output("house 1"), [])


class BlocksTest(unittest.TestCase):
    def test_try_brings_all_back(self):
        found = corridor("call 0 bell", "call 1 horn", "undo", "save a", "try", "redo", "form", "call 2 drum", "save a",
                         "save b", "undo", "undo", "undo", "undo", "alike b", "end", "form", "alike a", "alike b",
                         "redo", "form", "redo")
        self.assertEqual(found, [
            "form horn[1](bell[0] -[2])", "refused undo", "apart 0", "form bell[0](-[1,2])", "alike", "refused name",
            "form horn[1](bell[0] -[2])", "refused redo",
        ])

    def test_try_with_looks_and_doors(self):
        found = corridor("call 0 bell", "try", "open 0-1", "look bell bell -", "doors", "shut 1-2", "end", "doors",
                         "shut 0-1", "doors", "try", "undo", "undo", "redo", "end", "redo", "undo", "redo", "doors")
        self.assertEqual(found, [
            "doors 0-1:open 1-2:shut", "doors 0-1:free 1-2:free", "doors 0-1:shut 1-2:free", "refused redo",
            "doors 0-1:shut 1-2:free",
        ])

    def test_times(self):
        self.assertEqual(corridor("times 0", "form", "end", "orders"), ["orders 1"])
        self.assertEqual(corridor("times 3", "call 0 a", "end", "undo", "undo", "undo", "undo"), ["refused undo"])
        self.assertEqual(corridor("times 9", "form", "end"), ["form -[0,1,2]"] * 9)
        self.assertEqual(corridor("times 3", "end", "times 1", "undo", "end"), ["refused undo"])

    def test_blocks_within_blocks(self):
        found = corridor("times 2", "try", "times 2", "call 0 a", "orders", "end", "undo", "undo", "undo", "end",
                         "call 1 b", "end", "undo", "undo", "undo")
        # The second time round, the third undo takes back the call of b, and the end of the block brings it back.
        self.assertEqual(found, ["orders 1", "orders 1", "refused undo", "orders 1", "orders 1", "refused undo"])
        found = corridor("try", "call 0 a", "try", "call 0 b", "try", "call 0 c", "form", "end", "form", "end", "form", "end",
                         "form")
        self.assertEqual(found, [
            "form c[0](-[1,2])", "form b[0](-[1,2])", "form a[0](-[1,2])", "form -[0,1,2]",
        ])


class ThreeHundredTest(unittest.TestCase):
    def test_exactly_three_hundred(self):
        block = ["times 9"] + ["undo"] * 10 + ["end"]
        # Each block of this kind executes 1 + 90 commands.
        lines = block * 3 + ["undo"] * 27
        self.assertEqual(corridor(*lines), ["refused undo"] * 297)
        self.assertEqual(corridor(*lines, "form"), ["refused undo"] * 297 + ["stopped"])
        self.assertEqual(corridor(*lines, "form", "form", "try", "form", "end"), ["refused undo"] * 297 + ["stopped"])
        self.assertEqual(corridor(*lines, "times 0", "end"), ["refused undo"] * 297 + ["stopped"])
        self.assertEqual(corridor(*lines, "try", "end"), ["refused undo"] * 297 + ["stopped"])
        self.assertEqual(corridor(*lines[:-1], "times 9", "end"), ["refused undo"] * 296)
        self.assertEqual(corridor(*lines[:-1], "times 9", "undo", "end"), ["refused undo"] * 296 + ["stopped"])
        self.assertEqual(corridor(*lines[:-1], "try", "undo", "end", "undo"), ["refused undo"] * 296 + ["stopped"])

    def test_refused_and_silent_commands_count(self):
        lines = ["times 9", "times 9", "call 0 a", "undo", "save a", "end", "end"]
        # 1 + 9 + 9 * 9 * 3 commands, so 47 are left.
        self.assertEqual(corridor(*lines, *["form"] * 47), ["form -[0,1,2]"] * 47)
        self.assertEqual(corridor(*lines, *["form"] * 48), ["form -[0,1,2]"] * 47 + ["stopped"])
        self.assertEqual(corridor(*lines, *["undo"] * 47, "form"), ["refused undo"] * 47 + ["stopped"])

    def test_stopped_in_blocks(self):
        found = corridor("times 9", "times 9", "times 9", "orders", "end", "end", "orders", "end", "form")
        self.assertEqual(found[-1], "stopped")
        self.assertEqual(found.count("stopped"), 1)
        self.assertNotIn("form -[0,1,2]", found)
        # 1 + 1 + 1 + 9 commands for the innermost block, 1 + 9 * 10 for the middle one, and so on.
        commands = [("times", 9, [("times", 9, [("times", 9, [("orders",)])]), ("orders",)]), ("form",)]
        self.assertEqual(found, Reference(3, [(0, 1), (1, 2)]).run(commands))
        found = corridor("try", "times 9", "times 9", "call 0 a", "undo", "undo", "redo", "end", "end", "end", "form")
        self.assertEqual(found.count("stopped"), 1)
        self.assertEqual(found[-1], "stopped")

    def test_two_hundred_lines(self):
        self.assertEqual(corridor(*["orders"] * 199), ["orders 1"] * 199)
        self.assertEqual(corridor("times 2", *["orders"] * 150, "end"), ["orders 1"] * 299 + ["stopped"])
        self.assertEqual(corridor("times 1", "times 2", *["orders"] * 148, "end", "end"), ["orders 1"] * 296)
