"""The refusals: one class for each kind, all of them straight under MeetError.

Their messages are fixed texts: what was refused may be of any kind and size,
and is told by the fields alone.
"""


class MeetError(ValueError):
    """Any refusal."""

    def __init__(self, text):
        ValueError.__init__(self, text)


class NoHouses(MeetError):
    def __init__(self, found):
        MeetError.__init__(self, "these are no one to twelve names, no two alike")
        self.found = found


class NoHouse(MeetError):
    def __init__(self, found):
        MeetError.__init__(self, "this is no name of a house")
        self.found = found


class NoSet(MeetError):
    def __init__(self, found):
        MeetError.__init__(self, "a set is a list or a tuple of names of houses")
        self.found = found


class Twice(MeetError):
    def __init__(self, found):
        MeetError.__init__(self, "this stands there twice")
        self.found = found


class NoLots(MeetError):
    def __init__(self, found):
        MeetError.__init__(self, "these are no lots")
        self.found = found


class TooMany(MeetError):
    def __init__(self, found):
        MeetError.__init__(self, "there are too many")
        self.found = found


class NoPlan(MeetError):
    def __init__(self, found):
        MeetError.__init__(self, "this tells no plan")
        self.found = found


class NoText(MeetError):
    def __init__(self, place):
        MeetError.__init__(self, "the text is no plan's from this place on")
        self.place = place


class NoShare(MeetError):
    def __init__(self, found):
        MeetError.__init__(self, "this is no share")
        self.found = found


class NoNumber(MeetError):
    def __init__(self, found):
        MeetError.__init__(self, "this is no number that may stand here")
        self.found = found


class Apart(MeetError):
    def __init__(self, one, other):
        MeetError.__init__(self, "these two lots share no house")
        self.one = one
        self.other = other


class NoChance(MeetError):
    def __init__(self, found):
        MeetError.__init__(self, "this doesn't tell a chance for each house")
        self.found = found


class NoDealing(MeetError):
    def __init__(self, found):
        MeetError.__init__(self, "this is no dealing of the system")
        self.found = found


class NoKind(MeetError):
    def __init__(self, found):
        MeetError.__init__(self, "these are no two kinds of lots")
        self.found = found


class NoneStands(MeetError):
    def __init__(self, kind):
        MeetError.__init__(self, "no lot of this kind stands")
        self.kind = kind


class Fallen(MeetError):
    def __init__(self, name):
        MeetError.__init__(self, "this house has fallen")
        self.name = name


class Standing(MeetError):
    def __init__(self, name):
        MeetError.__init__(self, "this house stands")
        self.name = name


class NoValue(MeetError):
    def __init__(self, found):
        MeetError.__init__(self, "a value is a whole number")
        self.found = found


class NoUndo(MeetError):
    def __init__(self):
        MeetError.__init__(self, "nothing is left to undo")


class NoSystem(MeetError):
    def __init__(self, name):
        MeetError.__init__(self, "no plan is kept under this name")
        self.name = name


class NoLine(MeetError):
    def __init__(self, found):
        MeetError.__init__(self, "this is no line for the desk")
        self.found = found
