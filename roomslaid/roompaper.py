"""The paper of a room: of each cell who has it, what only fills up, and what is free."""

from roomslaid.layings import TAGS_IN_CELL, Block
from roomslaid.room import TAG_BITS, cells_in
from roomslaid.words import is_alike


def paper(laying):
    """Of each cell of the laying's room a tuple that tells who has it."""
    rows = [unhad(laying, cell) for cell in range(laying.room)]
    for thing in range(laying.things):
        for unit, width, sort in laying.shapes.main().units():
            put_down(rows, unit, thing, laying.place(unit, thing))
    return rows


def unhad(laying, cell):
    """What is told of the cell where no unit of a thing has it."""
    for number, part in enumerate(laying.parts):
        if isinstance(part, Block) and is_in_blocks(part, cell, laying.things):
            within = (cell - part.base) % part.length()
            return ("spare", number) if within < part.filled() else ("pad", number)
    return ("free",)


def is_in_blocks(part, cell, things):
    """Whether the cell lies in one of the blocks that so many things need."""
    blocks = (things + part.block - 1) // part.block
    return part.base <= cell < part.base + blocks * part.length()


def put_down(rows, unit, thing, place):
    """Tells in the rows that the unit of the thing has this place."""
    cell, shift, bits = place
    if bits == TAG_BITS:
        rows[cell] = with_tag(rows[cell], shift // TAG_BITS, (unit, thing))
        return
    for number, at in enumerate(cells_in(place)):
        rows[at] = ("has", unit, thing, number)


def with_tag(row, at, owner):
    """What is told of a cell of packed tags with one tag more."""
    four = list(row[1]) if row[0] == "tags" else [None] * TAGS_IN_CELL
    four[at] = owner
    return ("tags", tuple(four))


def is_paper(laying, thing):
    """Whether the thing is the paper of the laying."""
    return is_alike(thing, paper(laying))
