"""Lines of cells: which of them places touch, and the places of a part of a run."""

from roomslaid.errors import NoLine
from roomslaid.room import cells_in
from roomslaid.words import is_between

MOST_LINE_CELLS = 64


def lines_of(places, wide):
    """The numbers of the lines of so many cells that the places touch, place by place."""
    if not is_between(wide, 1, MOST_LINE_CELLS):
        raise NoLine(wide)
    lines = []
    for place in places:
        cells = cells_in(place)
        lines.extend(list(range(cells[0] // wide, cells[-1] // wide + 1)))
    return lines


def looks_between(rows, places, first, last):
    """The places of those looks whose program's line is from first to last; rows has that line of each look."""
    found = []
    for line, touched in zip(rows, places):
        if first <= line <= last:
            found.extend(touched)
    return found
