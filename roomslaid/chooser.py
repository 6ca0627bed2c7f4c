"""Holds layings against one another by the lines that a program's looks fetch."""

from roomslaid.cellstore import Cells
from roomslaid.errors import NoLayings
from roomslaid.kept import how_many
from roomslaid.layings import Laying
from roomslaid.lines import lines_of
from roomslaid.runs import run

MOST_LAYINGS = 40


def table(program, layings, records, inputs, budget, wide, most):
    """Of each laying a tuple (number, touched, fetched) of the lines that the program's looks touch."""
    need_layings(program, layings)
    rows = []
    for number, laying in enumerate(layings):
        cells = Cells(laying, records)
        run(program, cells, inputs, budget)
        lines = lines_of([place for touched in cells.places for place in touched], wide)
        rows.append((number, len(lines), how_many(lines, most)))
    return rows


def least(program, layings, records, inputs, budget, wide, most):
    """The number of the laying that fetches fewest, of several the first."""
    return least_in(table(program, layings, records, inputs, budget, wide, most))


def least_in(rows):
    """The number of the laying that fetches fewest by the rows of a table, of several the first."""
    fewest = min([fetched for number, touched, fetched in rows])
    return [number for number, touched, fetched in rows if fetched == fewest][0]


def need_layings(program, layings):
    """Refuses what is no list of layings for the program's shapes."""
    if not isinstance(layings, list) or not 1 <= len(layings) <= MOST_LAYINGS:
        raise NoLayings(layings)
    told = program.shapes.text()
    if not all([isinstance(laying, Laying) and laying.shapes.text() == told for laying in layings]):
        raise NoLayings(layings)
