"""Programs as texts: a house and commands, one a line."""

from callsheard.errors import BadHouse, BadLine
from callsheard.house import House
from callsheard.logs import is_word

# What the arguments of each command should be. A look has one or more, each of them "seen".
ARGUMENTS = {
    "call": ("number", "name"), "look": (), "open": ("door",), "shut": ("door",), "undo": (), "redo": (), "form": (),
    "doors": (), "count": (), "ask": (), "orders": (), "room": ("number",), "save": ("name",), "alike": ("name",),
    "again": ("name",), "try": (), "times": ("digit",), "end": (),
}
BLOCKS = ("try", "times")
MOST_OPEN = 3
# What is told if an argument is not what it should be, where it is not just that.
REASONS = {"digit": "number", "seen": "name"}
SILENCE = "-"


def read_program(text):
    """The triple of the number of rooms, the doors and the commands of a program. Raises BadLine."""
    lines = [line.split(" ") for line in text.split("\n")]
    rooms, doors = read_house(lines[0])
    commands = []
    around = []
    for number, words in enumerate(lines[1:], start=2):
        check_line(number, words, len(around))
        if words[0] == "end":
            commands = around.pop()
        else:
            command = read_command(words)
            commands.append(command)
            if words[0] in BLOCKS:
                around.append(commands)
                commands = command[-1]
    if around:
        raise BadLine(len(lines) + 1, "block")
    return (rooms, doors, commands)


def read_house(words):
    """The pair of the number of rooms and the list of the doors of the first line. Raises BadLine."""
    if words[0] != "house":
        raise BadLine(1, "house")
    if len(words) == 1:
        raise BadLine(1, "count")
    kinds = ["number"] + ["door"] * (len(words) - 2)
    check_arguments(1, kinds, words[1:])
    rooms, *doors = read_arguments(kinds, words[1:])
    try:
        House(rooms, doors)
    except BadHouse:
        raise BadLine(1, "house") from None
    return (rooms, doors)


def check_line(number, words, open_blocks):
    """Raise BadLine if a line behind the first one breaks a rule."""
    if words[0] not in ARGUMENTS:
        raise BadLine(number, "command")
    kinds = argument_kinds(words)
    if len(words) - 1 != len(kinds):
        raise BadLine(number, "count")
    check_arguments(number, kinds, words[1:])
    no_begin = words[0] == "end" and open_blocks == 0
    too_deep = words[0] in BLOCKS and open_blocks == MOST_OPEN
    if no_begin or too_deep:
        raise BadLine(number, "block")


def argument_kinds(words):
    """What the arguments of the command in a line should be."""
    if words[0] == "look":
        return ("seen",) * max(1, len(words) - 1)
    return ARGUMENTS[words[0]]


def check_arguments(number, kinds, arguments):
    """Raise BadLine at the first argument that is not what it should be."""
    for kind, argument in zip(kinds, arguments):
        if not is_argument(kind, argument):
            raise BadLine(number, REASONS.get(kind, kind))


def is_argument(kind, text):
    """True if the text is what an argument of the kind should be."""
    match kind:
        case "number":
            return is_number(text)
        case "digit":
            return is_number(text) and len(text) == 1
        case "seen":
            return text == SILENCE or is_word(text)
        case "door":
            first, _, second = text.partition("-")
            return is_number(first) and is_number(second)
        case _:
            return is_word(text)


def is_number(text):
    """True if the text has one or two digits and no leading zero."""
    return text.isdigit() and len(text) <= 2 and text == str(int(text))


def read_arguments(kinds, arguments):
    """The list of the values of arguments that are what they should be."""
    return [read_argument(kind, argument) for kind, argument in zip(kinds, arguments)]


def read_argument(kind, text):
    """The value of an argument that is what it should be."""
    match kind:
        case "number" | "digit":
            return int(text)
        case "seen":
            return None if text == SILENCE else text
        case "door":
            first, _, second = text.partition("-")
            return (int(first), int(second))
        case _:
            return text


def read_command(words):
    """The command of a line without faults; that of a block has an empty list, in which its commands will stand."""
    arguments = read_arguments(argument_kinds(words), words[1:])
    if words[0] == "look":
        return ("look", tuple(arguments))
    if words[0] in BLOCKS:
        arguments.append([])
    return (words[0], *arguments)


def format_program(rooms, doors, commands):
    """The text of a program."""
    first = " ".join(["house", str(rooms)] + [format_door(door) for door in doors])
    return "\n".join([first] + command_lines(commands))


def command_lines(commands):
    """The list of the lines of some commands."""
    lines = []
    for command in commands:
        lines.append(" ".join([command[0]] + format_arguments(command)))
        if command[0] in BLOCKS:
            lines.extend(command_lines(command[-1]))
            lines.append("end")
    return lines


def format_arguments(command):
    """The list of the arguments of a command as texts, without the commands of its block."""
    if command[0] == "look":
        return [format_word(word) for word in command[1]]
    kinds = ARGUMENTS[command[0]]
    return [format_door(value) if kind == "door" else str(value) for kind, value in zip(kinds, command[1:])]


def format_door(door):
    """A door as a text."""
    return f"{door[0]}-{door[1]}"


def format_word(word):
    """A word, or None, as a text."""
    return SILENCE if word is None else word
