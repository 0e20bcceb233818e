"""A desk: what is known of one house, deed by deed, with undo and redo."""

from callsheard.errors import (
    BadLook, BadQuestion, BadWord, Clash, Full, Known, NoDoor, NoRoom, NothingToRedo, NothingToUndo,
)
from callsheard.facts import is_word_or_none
from callsheard.forms import form_of
from callsheard.known import settle_form
from callsheard.logs import is_word
from callsheard.looks import door_states, looks_answer
from callsheard.openings import best_question, count_openings, room_now

MOST_CALLS = 60
MOST_LOOKS = 8


class Desk:
    """A desk that follows one house.

    A deed is ("call", room, word), ("look", seen) or ("know", door, is_open). What is refused changes nothing.
    """

    def __init__(self, house):
        self._house = house
        self._standing = []
        self._undone = []

    def __iter__(self):
        """Go over the standing deeds, the earliest one first."""
        return iter(self._standing)

    @staticmethod
    def replayed(house, deeds):
        """A new desk on which the deeds were done in order; ("undo",) and ("redo",) may stand among them."""
        desk = Desk(house)
        do_deeds(desk, deeds)
        return desk

    def twin(self):
        """A new desk with the same standing deeds and the same deeds to redo."""
        desk = Desk(self._house)
        desk._standing = list(self._standing)
        desk._undone = list(self._undone)
        return desk

    def call(self, room, word):
        """Call a word in a room. Raises NoRoom, BadWord and Full."""
        self.need_room(room)
        if not is_word(word):
            raise BadWord()
        if len(self.log()) >= MOST_CALLS:
            raise Full()
        return self.stand(("call", room, word))

    def look(self, seen):
        """Look at the rooms. Raises BadLook, Full and Clash."""
        if len(seen) != self._house.rooms:
            raise BadLook(-1)
        for place, word in enumerate(seen):
            if not is_word_or_none(word):
                raise BadLook(place)
        if len(self.looks()) >= MOST_LOOKS:
            raise Full()
        opened, shut = self.known_doors()
        self.need_opening(self.looks() + [(len(self.log()), list(seen))], opened, shut)
        return self.stand(("look", tuple(seen)))

    def know(self, door, is_open):
        """Make a door known as open or as shut. Raises NoDoor, Known and Clash."""
        if door not in self._house.doors():
            raise NoDoor(door)
        opened, shut = self.known_doors()
        if door in opened + shut:
            raise Known(door)
        if is_open:
            opened = sorted(opened + [door])
        else:
            shut = sorted(shut + [door])
        self.need_opening(self.looks(), opened, shut)
        return self.stand(("know", door, is_open))

    def undo(self):
        """Take back the last standing deed. Raises NothingToUndo."""
        if not self._standing:
            raise NothingToUndo()
        self._undone.append(self._standing.pop())
        return len(self._standing)

    def redo(self):
        """Do the deed again that was undone last. Raises NothingToRedo."""
        if not self._undone:
            raise NothingToRedo()
        self._standing.append(self._undone.pop())
        return len(self._standing)

    def stand(self, deed):
        """Let a new deed stand, so that no undone deed can be done again; the number of standing deeds."""
        self._standing.append(deed)
        self._undone = []
        return len(self._standing)

    def need_room(self, room):
        """Raise NoRoom if the integer is not a room of the house."""
        if not 0 <= room < self._house.rooms:
            raise NoRoom(room)

    def need_opening(self, looks, opened, shut):
        """Raise Clash if no opening fits the log, the looks and the known doors."""
        answer = looks_answer(self._house, self.log(), looks, opened=opened, shut=shut)
        if answer[0] != "opening":
            raise Clash(answer)

    @property
    def length(self):
        """The number of standing deeds."""
        return len(self._standing)

    def deeds(self):
        """The list of the standing deeds."""
        return list(self._standing)

    def log(self):
        """The list of the calls."""
        return [deed[1:] for deed in self._standing if deed[0] == "call"]

    def looks(self):
        """The list of the looks, each with the number of the calls before it."""
        found = []
        calls = 0
        for deed in self._standing:
            if deed[0] == "call":
                calls += 1
            if deed[0] == "look":
                found.append((calls, list(deed[1])))
        return found

    def known_doors(self):
        """The pair of the lists of the doors that are known as open and as shut."""
        return (self.doors_known(True), self.doors_known(False))

    def doors_known(self, is_open):
        """The ascending list of the doors that are known as open, or as shut."""
        return sorted([deed[1] for deed in self._standing if deed[0] == "know" and deed[2] == is_open])

    def form(self):
        """The form of the log."""
        return form_of(self._house, self.log())

    def settled_form(self):
        """The settled form of the log with the known doors."""
        opened, shut = self.known_doors()
        return settle_form(self._house, self.form(), opened=opened, shut=shut)

    def states(self):
        """The list of the states of all doors."""
        opened, shut = self.known_doors()
        return door_states(self._house, self.log(), self.looks(), opened=opened, shut=shut)

    def opening_count(self):
        """The number of the openings that fit. Raises TooLarge."""
        opened, shut = self.known_doors()
        return count_openings(self._house, self.log(), self.looks(), opened=opened, shut=shut)

    def next_question(self):
        """The best question, a door or None. Raises TooLarge."""
        opened, shut = self.known_doors()
        return best_question(self._house, self.log(), self.looks(), opened=opened, shut=shut)

    def room_state(self, room):
        """The answer about a room, a tuple. Raises NoRoom and TooLarge."""
        self.need_room(room)
        opened, shut = self.known_doors()
        return room_now(self._house, self.log(), self.looks(), room, opened=opened, shut=shut)

    def what_if(self, deeds, *questions):
        """The list of the answers to the questions after some more deeds, which are not done on this desk."""
        desk = self.twin()
        do_deeds(desk, deeds)
        return [answer_of(desk, question) for question in questions]


def do_deeds(desk, deeds):
    """Do deeds in order, ("undo",) and ("redo",) among them."""
    for deed in list(deeds):
        do_deed(desk, deed)


def do_deed(desk, deed):
    """Do a deed, an undo or a redo."""
    match deed:
        case ("call", room, word):
            desk.call(room, word)
        case ("look", seen):
            desk.look(list(seen))
        case ("know", door, is_open):
            desk.know(door, is_open)
        case ("undo",):
            desk.undo()
        case ("redo",):
            desk.redo()


def answer_of(desk, question):
    """The answer to a question. Raises BadQuestion if the string is none, and TooLarge."""
    match question:
        case "length":
            return desk.length
        case "form":
            return desk.form()
        case "states":
            return desk.states()
        case "opening_count":
            return desk.opening_count()
        case "next_question":
            return desk.next_question()
        case _:
            raise BadQuestion(question)
