"""Makes the texts of layings, each with the least room that is let by."""

from roomslaid.errors import LaidTwice, NoLayings, NoPath, NoThings, UnknownUnit
from roomslaid.layings import Block, Packed
from roomslaid.layingtext import MOST_BLOCK, MOST_PAD, MOST_THINGS
from roomslaid.room import cells_in
from roomslaid.shapes import Many
from roomslaid.words import is_between


def by_thing(shapes, things, pad=1):
    """Thing by thing, each padded."""
    need_things(things)
    need_number(pad, MOST_PAD)
    return text_of(things, [block_part(units_of(shapes), 1, pad)])


def by_field(shapes, things):
    """Field by field over all things."""
    need_things(things)
    return text_of(things, [block_part(units_of(shapes), things, 1)])


def by_blocks(shapes, things, block):
    """In blocks of so many things, within a block field by field."""
    need_things(things)
    need_number(block, MOST_BLOCK)
    return text_of(things, [block_part(units_of(shapes), block, 1)])


def apart(shapes, things, hot):
    """The units of these paths apart from all others."""
    need_things(things)
    units = units_of(shapes)
    need_hot(units, hot)
    return text_of(things, parted_by([unit for unit in units if unit[0] in hot], units))


def beside(shapes, things, field):
    """The units of the row of this name beside all others."""
    need_things(things)
    need_row(shapes.main(), field)
    units = units_of(shapes)
    others = [unit for unit in units if not unit[0].startswith(f"{field}.")]
    return text_of(things, parted_by(others, units))


def packed(shapes, things):
    """All tags packed, behind all other units."""
    need_things(things)
    units = units_of(shapes)
    tags = [path for path, width, sort in units if sort == "tag"]
    return text_of(things, [block_part([unit for unit in units if unit[2] != "tag"], 1, 1), Packed(0, tags)])


def units_of(shapes):
    """The units of the main shape."""
    return shapes.main().units()


def need_things(things):
    """Refuses what is no number of things that a laying is for."""
    if not is_between(things, 1, MOST_THINGS):
        raise NoThings(things)


def need_number(number, most):
    """Refuses what is no whole number from 1 to most."""
    if not is_between(number, 1, most):
        raise NoLayings(number)


def need_hot(units, hot):
    """Refuses what is no list of unlike paths of units."""
    if not isinstance(hot, list):
        raise NoLayings(hot)
    known = [path for path, width, sort in units]
    for thing in hot:
        if thing not in known:
            raise UnknownUnit(-1, thing)
    for at, unit in enumerate(hot):
        if unit in hot[:at]:
            raise LaidTwice(-1, unit)


def need_row(shape, field):
    """Refuses what names no field of the shape that is a row."""
    if field not in [name for name, kind in shape.fields if isinstance(kind, Many)]:
        raise NoPath(field)


def block_part(units, block, pad):
    """A part at the cell 0 that lays these units."""
    return Block(0, block, pad, [path for path, width, sort in units], [width for path, width, sort in units])


def parted_by(ahead, units):
    """A part of the units that stand ahead, and one of all others."""
    return [block_part(ahead, 1, 1), block_part([unit for unit in units if unit not in ahead], 1, 1)]


def text_of(things, parts):
    """The text of the laying that has these parts one behind the other, those without units left out."""
    lines = []
    base = 0
    for part in parts:
        if part.laid:
            lines.append(line_of(part, base))
            base += cells_had(part, things)
    return "\n".join([f"room {base} things {things}"] + lines)


def line_of(part, base):
    """The line of a part that begins at this cell."""
    laid = " ".join(part.laid)
    if isinstance(part, Block):
        return f"part {base} {part.block} {part.pad} : {laid}"
    return f"tags {base} : {laid}"


def cells_had(part, things):
    """How many cells there are up to the last one that so many things have in a part at the cell 0."""
    places = [part.place_of(number, thing) for number in range(len(part.laid)) for thing in range(things)]
    return 1 + max([cells_in(place)[-1] for place in places])
