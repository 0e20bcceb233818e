"""All errors of the program. Each keeps its arguments as attributes."""


class CallsError(ValueError):
    """The base class of all errors of the program."""


class BadHouse(CallsError):
    """No house has this number of rooms (place -1), or this door (its index)."""

    def __init__(self, place):
        self.place = place


class TooLarge(CallsError):
    """There are too many rooms or doors for this question."""

    def __init__(self, size):
        self.size = size


class OutOfRange(CallsError):
    """A number is below 0, or not below the count of what is numbered."""

    def __init__(self, count):
        self.count = count


class NotAnOrder(CallsError):
    """The rooms are not an order that keeps the form."""


class NotForced(CallsError):
    """The form does not force what was asked for."""


class NotAForm(CallsError):
    """The tuple is not one of the forms that are numbered."""


class NoLog(CallsError):
    """A table is not the table of any log; the part shows it."""

    def __init__(self, part):
        self.part = part


class BadFact(CallsError):
    """An entry in one of the three lists of facts breaks a rule."""

    def __init__(self, part, place):
        self.part = part
        self.place = place


class Impossible(CallsError):
    """Nothing fits what is known."""


class BadText(CallsError):
    """A text is not a written form."""

    def __init__(self, place):
        self.place = place


class BadWeave(CallsError):
    """A string is not a weave of the two logs."""


class BadLine(CallsError):
    """A line of a program breaks a rule."""

    def __init__(self, number, reason):
        self.number = number
        self.reason = reason


class Refused(CallsError):
    """The base class of what a desk refuses."""


class NoRoom(Refused):
    """The integer is not a room of the house."""

    def __init__(self, room):
        self.room = room


class BadWord(Refused):
    """The string is not a word."""


class BadLook(Refused):
    """The list is not what a look can see (place -1: its length)."""

    def __init__(self, place):
        self.place = place


class NoDoor(Refused):
    """The pair is not a door of the house."""

    def __init__(self, door):
        self.door = door


class Known(Refused):
    """The door is known already."""

    def __init__(self, door):
        self.door = door


class Clash(Refused):
    """No opening would fit any more."""

    def __init__(self, answer):
        self.answer = answer


class Full(Refused):
    """No more calls, or no more looks, can stand."""


class NothingToUndo(Refused):
    """No deed stands."""


class NothingToRedo(Refused):
    """No undone deed can be done again."""


class BadQuestion(Refused):
    """The string is none of the questions."""

    def __init__(self, question):
        self.question = question
