"""The refusals, each a class of its own straight under RoomError."""


class RoomError(ValueError):
    """Any refusal."""

    def __init__(self, words):
        ValueError.__init__(self, words)


class NoRoom(RoomError):
    """What is no width of a room."""

    def __init__(self, found):
        RoomError.__init__(self, "no room is so wide")
        self.found = found


class NoPlace(RoomError):
    """What is no place, or none of the room that is asked."""

    def __init__(self, found):
        RoomError.__init__(self, "this is no place")
        self.found = found


class NoShapes(RoomError):
    """The line at which a text is no text of shapes."""

    def __init__(self, line):
        RoomError.__init__(self, "this is no text of shapes")
        self.line = line


class UnknownShape(RoomError):
    """A name for which no shape is told ahead."""

    def __init__(self, line, name):
        RoomError.__init__(self, "no shape ahead is called so")
        self.line = line
        self.name = name


class NamedTwice(RoomError):
    """A name that stands ahead already."""

    def __init__(self, line, name):
        RoomError.__init__(self, "this name stands ahead already")
        self.line = line
        self.name = name


class TooMuch(RoomError):
    """What goes beyond a bound."""

    def __init__(self, line):
        RoomError.__init__(self, "this is more than there may be")
        self.line = line


class NoRecord(RoomError):
    """What is no record of the shape."""

    def __init__(self, found):
        RoomError.__init__(self, "this is no record of the shape")
        self.found = found


class NoPath(RoomError):
    """What leads to nothing that is asked for."""

    def __init__(self, path):
        RoomError.__init__(self, "this leads to nothing that is asked for")
        self.path = path


class Beyond(RoomError):
    """A number that there is not."""

    def __init__(self, found):
        RoomError.__init__(self, "there is none of this number")
        self.found = found


class Other(RoomError):
    """A shape that is not the one chosen."""

    def __init__(self, found):
        RoomError.__init__(self, "another shape is chosen there")
        self.found = found


class NoLaying(RoomError):
    """The line at which a text is no laying."""

    def __init__(self, line):
        RoomError.__init__(self, "this is no text of a laying")
        self.line = line


class UnknownUnit(RoomError):
    """What is no path of a unit."""

    def __init__(self, line, unit):
        RoomError.__init__(self, "no unit has this path")
        self.line = line
        self.unit = unit


class LaidTwice(RoomError):
    """A unit that stands ahead already."""

    def __init__(self, line, unit):
        RoomError.__init__(self, "this unit stands ahead already")
        self.line = line
        self.unit = unit


class Lacking(RoomError):
    """A unit that stands in no part."""

    def __init__(self, unit):
        RoomError.__init__(self, "this unit stands in no part")
        self.unit = unit


class Past(RoomError):
    """A unit of a thing that reaches past the room."""

    def __init__(self, unit, thing, cell):
        RoomError.__init__(self, "this unit reaches past the room")
        self.unit = unit
        self.thing = thing
        self.cell = cell


class Meets(RoomError):
    """Two units of things that share a bit."""

    def __init__(self, unit, thing, second, another):
        RoomError.__init__(self, "these two units share a bit")
        self.unit = unit
        self.thing = thing
        self.second = second
        self.another = another


class NoProgram(RoomError):
    """The line at which a text is no program."""

    def __init__(self, line):
        RoomError.__init__(self, "this is no text of a program")
        self.line = line


class WrongPath(RoomError):
    """A path that doesn't lead to what its line asks for."""

    def __init__(self, line, path):
        RoomError.__init__(self, "this path doesn't lead as it has to")
        self.line = line
        self.path = path


class NoInput(RoomError):
    """An input that the program doesn't take."""

    def __init__(self, name):
        RoomError.__init__(self, "the program takes no such input")
        self.name = name


class NoThings(RoomError):
    """What are no such things, or no number of them."""

    def __init__(self, found):
        RoomError.__init__(self, "these are no such things")
        self.found = found


class NoBudget(RoomError):
    """What is no budget of a run."""

    def __init__(self, found):
        RoomError.__init__(self, "this is no budget")
        self.found = found


class NoLine(RoomError):
    """What is no line of cells, or no width of one."""

    def __init__(self, found):
        RoomError.__init__(self, "this is no line of cells")
        self.found = found


class NoKeep(RoomError):
    """What is no number of lines to keep."""

    def __init__(self, found):
        RoomError.__init__(self, "no store keeps so many lines")
        self.found = found


class NoLayings(RoomError):
    """What are no layings, or what makes none."""

    def __init__(self, found):
        RoomError.__init__(self, "these are no layings")
        self.found = found


class NoTurn(RoomError):
    """What turns no laying into another one."""

    def __init__(self, found):
        RoomError.__init__(self, "this turns no laying")
        self.found = found


class NoOpen(RoomError):
    """What opens or closes no shape."""

    def __init__(self, found):
        RoomError.__init__(self, "this opens or closes no shape")
        self.found = found


class NoDesk(RoomError):
    """What a desk has no answer to."""

    def __init__(self, line):
        RoomError.__init__(self, "a desk has no answer to this")
        self.line = line
