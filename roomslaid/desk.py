"""A desk that answers lines of text with texts."""

from roomslaid.cellstore import Cells
from roomslaid.chooser import least_in, table
from roomslaid.desklines import read_line, shown_lines
from roomslaid.errors import NoDesk
from roomslaid.flats import flat
from roomslaid.layingtext import MOST_THINGS, read_laying
from roomslaid.makers import by_blocks, by_field, by_thing, packed
from roomslaid.opening import Opening
from roomslaid.program import lines_in, read_program
from roomslaid.records import blank, chosen, copied, stored
from roomslaid.roompaper import paper
from roomslaid.runs import run
from roomslaid.shapetext import read_shapes
from roomslaid.stores import Plain
from roomslaid.turning import Turning, run_turning

RUN_ANSWERS = ("run", "cells", "looks", "places", "lines", "table", "turn")
NOTHING = "-"
PAPER_WORDS = ("has", "tags", "pad", "spare", "free")


def answer_shapes(desk, values):
    """Keeps the shapes of a text, and nothing else any more."""
    word, text = values
    shapes = read_shapes(text)
    desk.shapes = shapes
    desk.layings = {}
    desk.program = None
    desk.things = []
    shape = shapes.main()
    return f"shape {shape.name} size {shape.size()} units {len(shape.units())}"


def answer_program(desk, values):
    """Keeps the program of a text."""
    word, text = values
    desk.program = read_program(desk.shapes, text)
    return f"lines {len(lines_in(text))} names {len(desk.program.names())}"


def answer_thing(desk, values):
    """Keeps a thing, a blank one but for what is stored and chosen."""
    word, changes = values
    shape = desk.shapes.main()
    record = blank(shape)
    for steps, sign, number in changes:
        if sign == "=":
            record = stored(shape, record, steps, number)
        else:
            record = chosen(shape, record, steps, number)
    desk.things.append(record)
    return f"thing {len(desk.things) - 1}"


def answer_clear(desk, values):
    """Keeps no things any more."""
    many = len(desk.things)
    desk.things = []
    return f"cleared {many}"


def answer_show(desk, values):
    """Shows a thing that is kept."""
    word, number = values
    return " ".join([f"{path}={told}" for path, told in flat(desk.shapes.main(), desk.things[number])])


def answer_laying(desk, values):
    """Keeps the laying of a text."""
    word, name, text = values
    laying = read_laying(desk.shapes, text)
    desk.layings[name] = laying
    return f"room {laying.room} things {laying.things} parts {len(laying.parts)}"


def keep_made(desk, name, text):
    """Keeps a laying that was made, and shows its text."""
    desk.layings[name] = read_laying(desk.shapes, text)
    return shown_lines(text)


def answer_by_thing(desk, values):
    """Keeps a laying that is made thing by thing."""
    word, name, way, things, pad = values
    return keep_made(desk, name, by_thing(desk.shapes, things, pad))


def answer_by_field(desk, values):
    """Keeps a laying that is made field by field."""
    word, name, way, things = values
    return keep_made(desk, name, by_field(desk.shapes, things))


def answer_by_blocks(desk, values):
    """Keeps a laying that is made in blocks."""
    word, name, way, things, block = values
    return keep_made(desk, name, by_blocks(desk.shapes, things, block))


def answer_packed(desk, values):
    """Keeps a laying that is made with its tags packed."""
    word, name, way, things = values
    return keep_made(desk, name, packed(desk.shapes, things))


def plain_store(desk, most):
    """A plain store of copies of the things."""
    return Plain(desk.shapes, most, copied(desk.things))


def cell_store(desk, name):
    """Copies of the things in the cells of a room, by the laying of this name."""
    return Cells(desk.layings[name], copied(desk.things))


def shown_run(told, store):
    """What came of a run on the store."""
    outs = [f"{word}" for word in told.outs]
    fault = "none" if told.fault is None else f"{told.fault[0]} {told.fault[1]}"
    return " ".join(["outs"] + outs + [f"fault {fault} done {told.done} many {store.many()}"])


def answer_run(desk, values):
    """Shows what comes of a run on a plain store."""
    word, most, budget, puts = values
    store = plain_store(desk, most)
    return shown_run(run(desk.program, store, puts, budget), store)


def answer_cells(desk, values):
    """Shows what comes of a run on cells."""
    word, name, budget, puts = values
    store = cell_store(desk, name)
    return shown_run(run(desk.program, store, puts, budget), store)


def shown_all(rows):
    """Rows of an answer one behind the other, or that there are none."""
    # The text whose lines are these rows, shown as texts of lines are.
    return shown_lines("\n".join(rows)) if rows else "none"


def shown_look(look):
    """A look, with a sign in the place of a path that has none."""
    deed, thing, path, number = look
    way = path if path else NOTHING
    return f"{deed} {thing} {way} {number}"


def answer_looks(desk, values):
    """Shows the looks of a run on a plain store."""
    word, most, budget, puts = values
    store = plain_store(desk, most)
    run(desk.program, store, puts, budget)
    return shown_all([shown_look(look) for look in store.looks])


def shown_place(place):
    """A place."""
    cell, shift, bits = place
    return f"{cell}.{shift}.{bits}"


def shown_places(touched):
    """The places of a look, with a sign in their place where there are none."""
    return " ".join([shown_place(place) for place in touched]) if touched else NOTHING


def answer_places(desk, values):
    """Shows the places that the looks of a run on cells touch."""
    word, name, budget, puts = values
    store = cell_store(desk, name)
    run(desk.program, store, puts, budget)
    return shown_all([shown_places(touched) for touched in store.places])


def answer_lines(desk, values):
    """Shows how many lines a run on cells touches and fetches."""
    word, name, wide, kept, budget, puts = values
    rows = table(desk.program, [desk.layings[name]], copied(desk.things), puts, budget, wide, kept)
    number, touched, fetched = rows[0]
    return f"touched {touched} fetched {fetched}"


def answer_table(desk, values):
    """Shows how many lines are touched and fetched by each laying, and which one fetches fewest."""
    word, wide, kept, budget, puts = values
    names = list(desk.layings)
    layings = [desk.layings[name] for name in names]
    rows = table(desk.program, layings, copied(desk.things), puts, budget, wide, kept)
    shown = [f"{names[number]} touched {touched} fetched {fetched}" for number, touched, fetched in rows]
    return " ".join(shown + [f"least {names[least_in(rows)]}"])


def answer_turn(desk, values):
    """Shows what comes of a run while one laying is turned into another one."""
    word, name, other, steps, budget, puts = values
    store = Turning(desk.layings[name], desk.layings[other], copied(desk.things))
    told = run_turning(desk.program, store, puts, budget, steps)
    return f"{shown_run(told, store)} moved {len(store.moved)}"


def answer_place(desk, values):
    """Shows the place of a unit of a thing."""
    word, name, unit, thing = values
    return shown_place(desk.layings[name].place(unit, thing))


def answer_leaf(desk, values):
    """Shows the place of a leaf of a thing."""
    word, name, path, thing = values
    return shown_place(desk.layings[name].leaf_place(path, thing))


def answer_paper(desk, values):
    """Shows how many cells of a laying's room are had, fill up, are spare and are free."""
    word, name = values
    told = [row[0] for row in paper(desk.layings[name])]
    return " ".join([f"{sort} {told.count(sort)}" for sort in PAPER_WORDS])


def answer_open(desk, values):
    """Opens a field of a shape, and leads all that is kept onward."""
    word, name, field, names = values
    opening = Opening(desk.shapes, name, field, names)
    shapes = opening.after
    texts = {own: opening.laying_onward(desk.layings[own].text()) for own in desk.layings}
    if desk.program is not None:
        desk.program = read_program(shapes, opening.program_onward(desk.program.text()))
    desk.layings = {own: read_laying(shapes, texts[own]) for own in texts}
    desk.things = [opening.record_onward(record) for record in desk.things]
    desk.shapes = shapes
    return shown_lines(shapes.text())


ANSWERS = {
    "shapes": answer_shapes,
    "program": answer_program,
    "thing": answer_thing,
    "clear": answer_clear,
    "show": answer_show,
    "laying": answer_laying,
    "by thing": answer_by_thing,
    "by field": answer_by_field,
    "by blocks": answer_by_blocks,
    "packed": answer_packed,
    "run": answer_run,
    "cells": answer_cells,
    "looks": answer_looks,
    "places": answer_places,
    "lines": answer_lines,
    "table": answer_table,
    "turn": answer_turn,
    "place": answer_place,
    "leaf": answer_leaf,
    "paper": answer_paper,
    "open": answer_open,
}


class Desk:
    """Shapes, layings by names, a program and things, none of them at first."""

    def __init__(self):
        self.shapes = None
        self.layings = {}
        self.program = None
        self.things = []

    def say(self, line):
        """The answer to the line."""
        word, form, values = read_line(line)
        if not self.has_all(word, form, values):
            raise NoDesk(line)
        answer = ANSWERS[word]
        return answer(self, values)

    def has_all(self, word, form, values):
        """Whether all is kept that the line asks for, and there is room for a thing that it tells."""
        if word != "shapes" and self.shapes is None:
            return False
        if word in RUN_ANSWERS and self.program is None:
            return False
        if word == "thing" and len(self.things) == MOST_THINGS:
            return False
        asked = list(zip(form, values))
        if not all([value in self.layings for part, value in asked if part == "LAYING"]):
            return False
        return all([value < len(self.things) for part, value in asked if part == "THING"])
