"""Layings: where in a room each unit of each thing lies."""

from roomslaid.errors import NoPath, NoThings, UnknownUnit
from roomslaid.room import CELL_BITS, TAG_BITS
from roomslaid.words import is_between

TAGS_IN_CELL = 4


class Part:
    """What both parts have in common; it is not made by itself.

    Each part tells by `place_of` the place of the unit of that number in it,
    counted from 0, of a thing.
    """

    def __init__(self, base, laid):
        self.base = base
        self.laid = tuple(laid)


class Block(Part):
    """A part that lays its units by blocks of things, within a block field by field."""

    def __init__(self, base, block, pad, laid, widths):
        Part.__init__(self, base, laid)
        self.block = block
        self.pad = pad
        self.widths = tuple(widths)

    def filled(self):
        """How many cells of a block its things have."""
        return self.block * sum(self.widths)

    def length(self):
        """How many cells a block has, those that pad it too."""
        pads = (self.filled() + self.pad - 1) // self.pad
        return pads * self.pad

    def place_of(self, number, thing):
        """The whole cells of the unit of that number of a thing."""
        at, within = divmod(thing, self.block)
        width = self.widths[number]
        first = self.base + at * self.length() + self.block * sum(self.widths[:number]) + within * width
        return (first, 0, width * CELL_BITS)


class Packed(Part):
    """A part that packs its tags, four to a cell."""

    def place_of(self, number, thing):
        """The packed tag of that number of a thing."""
        at, within = divmod(thing * len(self.laid) + number, TAGS_IN_CELL)
        return (self.base + at, within * TAG_BITS, TAG_BITS)


class Laying:
    """A room of so many cells for so many things, and the parts that tell where their units lie in it."""

    def __init__(self, shapes, room, things, parts, written):
        self.shapes = shapes
        self.room = room
        self.things = things
        self.parts = tuple(parts)
        self.written = written
        self.unit_places = unit_places_of(parts, things)
        self.leaf_rows = {path: (unit, offset, width) for path, width, unit, offset, holds in shapes.main().leaves()}

    def place(self, unit, thing):
        """The place of this unit of the thing."""
        if not self.is_unit(unit):
            raise UnknownUnit(-1, unit)
        if not self.is_thing(thing):
            raise NoThings(thing)
        return self.unit_places[unit][thing]

    def leaf_place(self, path, thing):
        """The place of the leaf, or of the inner tag, of this path of the thing."""
        if not isinstance(path, str) or path not in self.leaf_rows:
            raise NoPath(path)
        if not self.is_thing(thing):
            raise NoThings(thing)
        unit, offset, width = self.leaf_rows[path]
        cell, shift, bits = self.unit_places[unit][thing]
        return (cell + offset, 0, width * CELL_BITS)

    def text(self):
        """The text that was read."""
        return self.written

    def is_unit(self, thing):
        """Whether the thing is the path of a unit."""
        return isinstance(thing, str) and thing in self.unit_places

    def is_thing(self, thing):
        """Whether the thing is the number of one for which there is room."""
        return is_between(thing, 0, self.things - 1)


def unit_places_of(parts, things):
    """For each unit of the parts, by its path, the list of its places, thing by thing."""
    places = {}
    for part in parts:
        for number, unit in enumerate(part.laid):
            places[unit] = [part.place_of(number, thing) for thing in range(things)]
    return places
