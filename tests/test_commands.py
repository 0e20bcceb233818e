"""callsheard/commands.py: [88] to [91] and the interface."""

import copy
import random
import unittest

from callsheard.commands import format_program, read_program
from callsheard.errors import BadLine
from tests.support import spoil

TEXT = """house 3 0-1 2-1
call 2 bell
look bell - horn
open 0-1
shut 2-1
undo
redo
form
doors
count
ask
orders
room 12
save first
try
times 3
alike first
try
again first
end
end
times 0
end
end
call 99 abcdefgh"""
COMMANDS = [
    ("call", 2, "bell"), ("look", ("bell", None, "horn")), ("open", (0, 1)), ("shut", (2, 1)), ("undo",), ("redo",),
    ("form",), ("doors",), ("count",), ("ask",), ("orders",), ("room", 12), ("save", "first"),
    ("try", [("times", 3, [("alike", "first"), ("try", [("again", "first")])]), ("times", 0, [])]),
    ("call", 99, "abcdefgh"),
]
PLAIN = ["undo", "redo", "form", "doors", "count", "ask", "orders"]


def reason_of(test, text):
    with test.assertRaises(BadLine, msg=repr(text)) as caught:
        read_program(text)
    return (caught.exception.number, caught.exception.reason)


def random_block(dice, depth):
    """Commands, and their lines."""
    commands, lines = [], []
    for _ in range(dice.randrange(6)):
        kind = dice.choice(["plain", "call", "look", "door", "room", "name", "block", "block"])
        number, name = dice.choice([0, 1, 9, 10, 47, 99]), dice.choice(["a", "bell", "abcdefgh", "look", "try"])
        if kind == "plain":
            name = dice.choice(PLAIN)
            commands.append((name,))
            lines.append(name)
        elif kind == "call":
            commands.append(("call", number, name))
            lines.append(f"call {number} {name}")
        elif kind == "look":
            seen = [dice.choice([None, "a", "horn"]) for _ in range(dice.randrange(1, 14))]
            commands.append(("look", tuple(seen)))
            lines.append("look " + " ".join("-" if word is None else word for word in seen))
        elif kind == "door":
            door, word = (dice.choice([0, 9, 10, 99]), number), dice.choice(["open", "shut"])
            commands.append((word, door))
            lines.append(f"{word} {door[0]}-{door[1]}")
        elif kind == "room":
            commands.append(("room", number))
            lines.append(f"room {number}")
        elif kind == "name":
            word = dice.choice(["save", "alike", "again"])
            commands.append((word, name))
            lines.append(f"{word} {name}")
        elif depth < 3:
            inner, inner_lines = random_block(dice, depth + 1)
            number = dice.randrange(10)
            if dice.random() < 0.5:
                commands.append(("try", inner))
                lines += ["try"] + inner_lines + ["end"]
            else:
                commands.append(("times", number, inner))
                lines += [f"times {number}"] + inner_lines + ["end"]
    return commands, lines


class ReadAndFormatTest(unittest.TestCase):
    def test_each_command(self):
        self.assertEqual(read_program(TEXT), (3, [(0, 1), (2, 1)], COMMANDS))
        self.assertEqual(format_program(3, [(0, 1), (2, 1)], COMMANDS), TEXT)

    def test_only_a_house(self):
        for text, rooms, doors in (
            ("house 1", 1, []), ("house 12", 12, []), ("house 2 1-0", 2, [(1, 0)]), ("house 12 10-11 0-9", 12, [(10, 11), (0, 9)]),
        ):
            self.assertEqual(read_program(text), (rooms, doors, []))
            self.assertEqual(format_program(rooms, doors, []), text)

    def test_random_programs_both_ways_round(self):
        dice = random.Random(1331)
        for _ in range(300):
            rooms = dice.randrange(1, 13)
            doors = [(a, b) for a in range(rooms) for b in range(a) if dice.random() < 0.3]
            doors = [door if dice.random() < 0.5 else door[::-1] for door in doors]
            dice.shuffle(doors)
            commands, lines = random_block(dice, 0)
            text = "\n".join([" ".join(["house", str(rooms)] + [f"{a}-{b}" for a, b in doors])] + lines)
            self.assertEqual(read_program(text), (rooms, doors, commands))
            self.assertEqual(format_program(rooms, doors, commands), text)

    def test_kinds_of_values(self):
        rooms, doors, commands = read_program(TEXT)
        self.assertEqual((type(rooms), type(doors), type(doors[0]), type(commands)), (int, list, tuple, list))
        self.assertTrue(all(type(command) is tuple for command in commands))
        self.assertEqual((type(commands[0][1]), type(commands[1][1]), type(commands[2][1])), (int, tuple, tuple))
        self.assertEqual((type(commands[13][1]), type(commands[13][1][0][2])), (list, list))

    def test_blocks_three_deep(self):
        text = "house 1\ntry\ntimes 2\ntry\nundo\nend\ntimes 1\nend\nend\nend\ntry\nend"
        wanted = [("try", [("times", 2, [("try", [("undo",)]), ("times", 1, [])])]), ("try", [])]
        self.assertEqual(read_program(text), (1, [], wanted))
        self.assertEqual(format_program(1, [], wanted), text)

    def test_two_hundred_lines(self):
        text = "\n".join(["house 3 0-1"] + ["call 0 bell"] * 199)
        self.assertEqual(read_program(text), (3, [(0, 1)], [("call", 0, "bell")] * 199))
        self.assertEqual(format_program(*read_program(text)), text)
        self.assertEqual(reason_of(self, text[:-1] + "L"), (200, "name"))
        self.assertEqual(reason_of(self, "\n".join(["house 3"] + ["try", "end"] * 99 + ["try"])), (201, "block"))

    def test_clean(self):
        rooms, doors, commands = read_program(TEXT)
        kept = copy.deepcopy((doors, commands))
        self.assertEqual(format_program(rooms, doors, commands), TEXT)
        self.assertEqual((doors, commands), kept)
        spoil([doors, commands])
        self.assertEqual(read_program(TEXT), (3, *kept))
        self.assertEqual(format_program(3, *kept), TEXT)


class BadLineTest(unittest.TestCase):
    def test_first_line(self):
        for line, reason in (
            ("", "house"), ("\n", "house"), ("House 3", "house"), (" house 3", "house"), ("house3", "house"),
            ("call 0 bell", "house"), ("houses 3", "house"), ("end", "house"), ("house", "count"), ("house ", "number"),
            ("house  3", "number"), ("house x", "number"), ("house 03", "number"), ("house 00", "number"),
            ("house 100", "number"), ("house -1", "number"), ("house +3", "number"), ("house 3-4", "number"),
            ("house 0-1", "number"), ("house 3 ", "door"), ("house 3  0-1", "door"), ("house 3 0-1 ", "door"),
            ("house 3 01", "door"), ("house 3 0", "door"), ("house 3 -", "door"), ("house 3 0-", "door"),
            ("house 3 -1", "door"), ("house 3 0-1-2", "door"), ("house 3 0--1", "door"), ("house 3 0-01", "door"),
            ("house 3 00-1", "door"), ("house 3 0-100", "door"), ("house 3 a-b", "door"), ("house 3 0-1 x", "door"),
            ("house 3 0_1", "door"), ("house 0", "house"), ("house 13", "house"), ("house 99", "house"),
            ("house 3 0-3", "house"), ("house 3 0-0", "house"), ("house 3 0-1 0-1", "house"), ("house 3 0-1 1-0", "house"),
            ("house 3 99-98", "house"), ("house 0 0-1", "house"),
        ):
            self.assertEqual(reason_of(self, line), (1, reason))

    def test_the_first_rule_of_the_first_line_counts(self):
        for line, reason in (
            ("hause", "house"), ("hause x y", "house"), ("house x y", "number"), ("house 99 y", "door"),
            ("house 0 x", "door"), ("house 3 0-0 x", "door"), ("house 13 0-0", "house"),
        ):
            self.assertEqual(reason_of(self, line), (1, reason))
            self.assertEqual(reason_of(self, line + "\nnonsense"), (1, reason))

    def test_other_lines(self):
        for line, reason in (
            ("", "command"), (" ", "command"), (" undo", "command"), ("Undo", "command"), ("house 3", "command"),
            ("calls 0 bell", "command"), ("0", "command"), ("bell", "command"), ("-", "command"),
            ("call", "count"), ("call 0", "count"), ("call 0 bell ", "count"), ("call  0 bell", "count"),
            ("call 0 bell bell", "count"), ("look", "count"), ("open", "count"), ("open 0-1 1-2", "count"), ("shut", "count"),
            ("room", "count"), ("room 1 2", "count"), ("save", "count"), ("alike", "count"), ("again", "count"),
            ("save a b", "count"), ("alike a b", "count"), ("again a ", "count"), ("try 1", "count"), ("try ", "count"),
            ("times", "count"), ("times 1 2", "count"), ("end 1", "count"), ("end ", "count"),
            ("call x bell", "number"), ("call 00 bell", "number"), ("call 100 bell", "number"), ("call  bell", "number"),
            ("call -1 bell", "number"), ("call 01 bell", "number"), ("call 0 Bell", "name"), ("call 0 ", "name"),
            ("call 0 -", "name"), ("call 0 abcdefghi", "name"), ("call 0 a1", "name"), ("call 0 a_b", "name"),
            ("look ", "name"), ("look bell ", "name"), ("look  bell", "name"), ("look --", "name"), ("look 1", "name"),
            ("look bell - ?", "name"), ("look abcdefghi", "name"), ("open 0", "door"), ("open ", "door"),
            ("open 0-x", "door"), ("shut 0-00", "door"), ("shut 1-2-3", "door"), ("shut 100-1", "door"), ("room ", "number"),
            ("room x", "number"), ("room 012", "number"), ("room 1-2", "number"), ("save ", "name"), ("save A", "name"),
            ("save -", "name"), ("alike 1", "name"), ("again abcdefghi", "name"), ("times x", "number"),
            ("times 10", "number"), ("times 99", "number"), ("times 00", "number"), ("times ", "number"),
            ("times -1", "number"), ("end", "block"), ("undo -", "count"), ("form 1", "count"),
        ):
            for before in ("house 3 0-1", "house 3\nundo\ntry\nend"):
                self.assertEqual(reason_of(self, before + "\n" + line), (before.count("\n") + 2, reason), line)
        for command in PLAIN + ["try", "end"]:
            for more in (" ", " 0", " bell", "  "):
                self.assertEqual(reason_of(self, f"house 3\n{command}{more}"), (2, "count"))

    def test_the_first_rule_of_a_line_counts(self):
        for line, reason in (
            ("nonsense 1 2 3", "command"), ("call x", "count"), ("call x Y Z", "count"), ("call x Y", "number"),
            ("call 1 Y", "name"), ("look A 1", "name"), ("times x y", "count"), ("end x", "count"),
        ):
            self.assertEqual(reason_of(self, "house 3\n" + line), (2, reason))
        inside = "house 3\ntry\ntry\ntry\n"
        for line, reason in (
            ("try", "block"), ("times 3", "block"), ("times 10", "number"), ("times x", "number"), ("times", "count"),
            ("try 1", "count"), ("tries", "command"),
        ):
            self.assertEqual(reason_of(self, inside + line), (5, reason))

    def test_the_first_line_with_a_fault_counts(self):
        self.assertEqual(reason_of(self, "house 3\ncall 0\nnonsense"), (2, "count"))
        self.assertEqual(reason_of(self, "house 3\nundo\n\nend"), (3, "command"))
        self.assertEqual(reason_of(self, "house 3\ntry\nend\nend\nnonsense"), (4, "block"))
        self.assertEqual(reason_of(self, "house 3\ntry\nnonsense"), (3, "command"))
        self.assertEqual(reason_of(self, "house 3\n"), (2, "command"))
        self.assertEqual(reason_of(self, "house 3\nundo\n"), (3, "command"))
        self.assertEqual(reason_of(self, "\nhouse 3"), (1, "house"))

    def test_open_blocks(self):
        for text, number in (
            ("house 3\ntry", 3), ("house 3\ntimes 2\nundo", 4), ("house 3\ntry\ntry\nend", 5), ("house 3\ntry\ntry\ntry", 5),
            ("house 3\ntry\nend\ntry\nundo\nundo", 7),
        ):
            self.assertEqual(reason_of(self, text), (number, "block"))

    def test_blocks_beside_each_other_are_not_deep(self):
        text = "house 3\n" + "\n".join(["try", "try", "try", "end", "end", "end"] * 4)
        self.assertEqual(len(read_program(text)[2]), 4)
        self.assertEqual(reason_of(self, text + "\nend"), (26, "block"))
        text = "house 3\ntry\ntry\ntry\nend\ntimes 9\ntry"
        self.assertEqual(reason_of(self, text), (7, "block"))

    def test_attributes(self):
        with self.assertRaises(BadLine) as caught:
            read_program("house 3\nundo\ncall 0 B")
        self.assertEqual(vars(caught.exception), {"number": 3, "reason": "name"})
