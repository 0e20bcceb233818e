"""Programs that are run on a desk."""

from callsheard.alike import parting_path
from callsheard.commands import format_door, format_word, read_program
from callsheard.desk import Desk, do_deed
from callsheard.errors import BadLook, Clash, Full, Known, NoDoor, NoRoom, NothingToRedo, NothingToUndo, TooLarge
from callsheard.forms import form_of
from callsheard.formtext import format_form
from callsheard.further import further_calls
from callsheard.house import House
from callsheard.openings import word_counts
from callsheard.orders import count_orders

MOST_EXECUTED = 300


def run(text):
    """The list of the output lines of a program. Raises BadLine."""
    rooms, doors, commands = read_program(text)
    house = House(rooms, doors)
    program_run = Run(house)
    program_run.execute(commands, Desk(house), {})
    return program_run.output_lines()


class Run:
    """A run of a program: its output so far, and how many commands were executed."""

    def __init__(self, house):
        self._house = house
        self._output = []
        self._executed = 0

    def output_lines(self):
        """The list of the output lines."""
        return list(self._output)

    def execute(self, commands, desk, kept):
        """Execute commands in order; False if the run ends before all are executed.

        kept has the logs that are kept, by their names.
        """
        for command in commands:
            if self._executed == MOST_EXECUTED:
                self._output.append("stopped")
                return False
            self._executed += 1
            if not self.execute_one(command, desk, kept):
                return False
        return True

    def execute_one(self, command, desk, kept):
        """Execute a command; False if the run ends in its block."""
        match command:
            case ("try", block):
                # What is done to the twin and to the copy is gone after the block.
                return self.execute(block, desk.twin(), dict(kept))
            case ("times", number, block):
                return self.repeat(number, block, desk, kept)
            case ("save", name):
                kept[name] = desk.log()
            case _:
                words = told_words(self._house, command, desk, kept)
                if words:
                    self._output.append(" ".join(words))
        return True

    def repeat(self, number, commands, desk, kept):
        """Execute commands so many times; False if the run ends before."""
        for _ in range(number):
            if not self.execute(commands, desk, kept):
                return False
        return True


def told_words(house, command, desk, kept):
    """The words of the output line of a command that is no block, or an empty list if it has no output."""
    try:
        return done_words(house, command, desk, kept)
    except NoRoom:
        return ["refused", "room"]
    except BadLook:
        return ["refused", "look"]
    except Full:
        return ["refused", "full"]
    except Clash:
        return ["refused", "clash"]
    except NoDoor:
        return ["refused", "door"]
    except Known:
        return ["refused", "known"]
    except NothingToUndo:
        return ["refused", "undo"]
    except NothingToRedo:
        return ["refused", "redo"]
    except TooLarge:
        return ["refused", "large"]


def done_words(house, command, desk, kept):
    """The words of the output line of a command, if nothing is refused; raise the error if the desk refuses it."""
    match command:
        case ("form",):
            return ["form", format_form(desk.form())]
        case ("orders",):
            return ["orders", str(count_orders(house, desk.form()))]
        case ("doors",):
            return ["doors"] + state_words(house, desk)
        case ("count",):
            return ["count", str(desk.opening_count())]
        case ("ask",):
            door = desk.next_question()
            return ["ask", "-" if door is None else format_door(door)]
        case ("room", room):
            return room_words(house, desk, room)
        case ("alike" | "again", _):
            return kept_words(house, command, desk, kept)
        case _:
            do_deed(desk, deed_of(command))
            return []


def deed_of(command):
    """The deed of a command that is one."""
    match command:
        case ("open", door):
            return ("know", door, True)
        case ("shut", door):
            return ("know", door, False)
        case _:
            return command


def state_words(house, desk):
    """Each door with its state, as a list of words."""
    return [f"{format_door(door)}:{state}" for door, state in zip(house.doors(), desk.states())]


def room_words(house, desk, room):
    """The words of the output line about a room. Raises NoRoom and TooLarge."""
    desk.need_room(room)
    opened, shut = desk.known_doors()
    counts = word_counts(house, desk.log(), desk.looks(), room, opened=opened, shut=shut)
    return ["room", "sure" if len(counts) == 1 else "open"] + [format_word(word) for word, _ in counts]


def kept_words(house, command, desk, kept):
    """The words of the output line of a command about a kept log."""
    kind, name = command
    if name not in kept:
        return ["refused", "name"]
    if kind == "alike":
        return alike_words(house, kept[name], desk.log())
    return again_words(house, kept[name], desk.log())


def alike_words(house, wished, log):
    """The words that tell whether a log is alike to the kept one."""
    path = parting_path(house, wished, log)
    return ["alike"] if path is None else ["apart"] + [str(room) for room in path]


def again_words(house, wished, log):
    """The words that tell which calls make the form of a log that of the kept one."""
    calls = further_calls(house, log, form_of(house, wished))
    return ["never"] if calls is None else ["again"] + [f"{room}:{word}" for room, word in calls]
