"""Reads a text of shapes."""

from roomslaid.errors import NamedTwice, NoShapes, TooMuch, UnknownShape
from roomslaid.shapes import Many, Nested, Num, Pick, Shape, Shapes
from roomslaid.words import is_name, number_in

MOST_SHAPES = 8
MOST_FIELDS = 6
MOST_CELLS = 64
MOST_UNITS = 40
MOST_DEPTH = 4
MOST_WIDTH = 4
MOST_COUNT = 6
LEAST_PICKED = 2
MOST_PICKED = 4


def read_shapes(text):
    """The shapes that the text tells."""
    if not isinstance(text, str):
        raise NoShapes(0)
    lines = text.split("\n")
    told = []
    for line, row in enumerate(lines):
        words = row.split(" ")
        if is_shape_line(words):
            need_new_shape(told, line, words[1])
            told.append(Shape(words[1], []))
        else:
            need_field(told, line, words)
            told[-1] = with_field(told, line, words)
    if not told[-1].fields:
        raise NoShapes(len(lines))
    return Shapes(told)


def is_shape_line(words):
    """Whether the words are a line that begins a shape."""
    return len(words) == 2 and words[0] == "shape" and is_name(words[1])


def is_field_line(words):
    """Whether the words are a line that tells a field."""
    return len(words) > 1 and is_name(words[0]) and is_kind(words[1:])


def is_kind(words):
    """Whether the words tell a kind."""
    if words[0] == "row":
        return len(words) > 2 and number_in(words[1], 1, MOST_COUNT) is not None and is_single(words[2:])
    if words[0] == "pick":
        return LEAST_PICKED <= len(words) - 1 <= MOST_PICKED and all([is_name(word) for word in words[1:]])
    return is_single(words)


def is_single(words):
    """Whether the words tell a kind that a row may have: a num or a shape."""
    if words[0] == "num":
        return len(words) == 2 and number_in(words[1], 1, MOST_WIDTH) is not None
    return len(words) == 1 and is_name(words[0])


def need_new_shape(told, line, name):
    """Refuses a shape's line that can't stand behind the shapes told so far."""
    if told and not told[-1].fields:
        raise NoShapes(line)
    if name in [shape.name for shape in told]:
        raise NamedTwice(line, name)
    if len(told) == MOST_SHAPES:
        raise TooMuch(line)


def need_field(told, line, words):
    """Refuses a field's line that can't stand behind the lines told so far, but for the bounds."""
    if not told or not is_field_line(words):
        raise NoShapes(line)
    if words[0] in [name for name, kind in told[-1].fields]:
        raise NamedTwice(line, words[0])
    named = shapes_named(words)
    for at, name in enumerate(named):
        if name in named[:at]:
            raise NamedTwice(line, name)
    for name in named:
        if name not in whole_shapes(told):
            raise UnknownShape(line, name)


def shapes_named(words):
    """The names of shapes in a field's line, from the left: own words and figures are no names."""
    return [word for word in words[1:] if is_name(word)]


def whole_shapes(told):
    """The shapes by their names, but the last one, whose fields are still being told."""
    return {shape.name: shape for shape in told[:-1]}


def with_field(told, line, words):
    """The shape that is being told, with this line's field behind its fields."""
    kind = kind_in(words[1:], whole_shapes(told))
    shape = Shape(told[-1].name, told[-1].fields + ((words[0], kind),))
    if is_too_much(shape):
        raise TooMuch(line)
    return shape


def kind_in(words, shapes):
    """The kind that the words tell."""
    if words[0] == "num":
        return Num(int(words[1]))
    if words[0] == "row":
        return Many(int(words[1]), kind_in(words[2:], shapes))
    if words[0] == "pick":
        return Pick([shapes[name] for name in words[1:]])
    return Nested(shapes[words[0]])


def is_too_much(shape):
    """Whether the shape goes beyond a bound."""
    if len(shape.fields) > MOST_FIELDS or shape.size() > MOST_CELLS:
        return True
    return len(shape.units()) > MOST_UNITS or shape.depth() > MOST_DEPTH
