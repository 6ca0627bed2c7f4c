"""A store that holds its things in the cells of a room, by a laying."""

from roomslaid.errors import Beyond
from roomslaid.flats import flat
from roomslaid.records import asked_kind, gathered, is_number_of, kind_at, need_chosen, need_element
from roomslaid.room import CELL_BITS, Room
from roomslaid.shapes import Nested, Num, Pick, joined
from roomslaid.stores import Store, need_records, path_of


class Cells(Store):
    """Things in the cells of a room; beside each look the places that it touches are kept."""

    def __init__(self, laying, records):
        Store.__init__(self, laying.shapes, laying.things)
        need_records(laying.shapes, laying.things, records)
        self.laying = laying
        self.places = []
        self.room = Room(laying.room)
        self.there = len(records)
        for thing, record in enumerate(records):
            for path, number in flat(self.shapes.main(), record):
                self.room.left(self.spot(path, thing), number)

    def word_at(self, thing, steps):
        touched = self.way_to(thing, steps, "num")
        self.places.append(touched)
        return self.room.taken(touched[-1])

    def word_set(self, thing, steps, word):
        touched = self.way_to(thing, steps, "num")
        self.room.left(touched[-1], word)
        self.places.append(touched)
        return self.room.taken(touched[-1])

    def tag_at(self, thing, steps):
        touched = self.way_to(thing, steps, "pick")
        self.places.append(touched)
        return self.room.taken(touched[-1])

    def tag_set(self, thing, steps, number):
        touched = self.way_to(thing, steps, "pick")
        pick = kind_at(self.shapes.main(), steps)
        if not is_number_of(pick, number):
            raise Beyond(number)
        within = self.chosen_spot(pick, path_of(steps), thing)
        self.room.left(within, 0)
        self.room.left(touched[-1], number)
        self.places.append(touched[:-1] + [within] + touched[-1:])
        return number

    def copied_over(self, thing, other):
        self.places.append(self.brought(thing, other))

    def blank_put(self):
        number = self.there
        touched = [self.laying.place(unit, number) for unit in self.unit_paths()]
        for place in touched:
            self.room.left(place, 0)
        self.places.append(touched)
        self.there += 1
        return number

    def last_taken(self, thing):
        last = self.there - 1
        self.places.append(self.brought(thing, last) if thing != last else [])
        self.there = last
        return last

    def many(self):
        return self.there

    def records(self):
        return [self.value_at(Nested(self.shapes.main()), "", thing) for thing in range(self.there)]

    def cells(self):
        """The cells of its room as they are, a new list each time."""
        return self.room.cells()

    def unit_paths(self):
        """The paths of the main shape's units, in their order."""
        return [path for path, width, sort in self.shapes.main().units()]

    def brought(self, thing, other):
        """Brings each unit of the other thing to this one, and tells the places that this touches."""
        touched = []
        for unit in self.unit_paths():
            source = self.laying.place(unit, other)
            goal = self.laying.place(unit, thing)
            self.room.left(goal, self.room.taken(source))
            touched.extend([source, goal])
        return touched

    def way_to(self, thing, steps, word):
        """The places of the tags on the way to what has to be of this word, and behind them its own place or tag's."""
        asked_kind(self.shapes.main(), steps, word)
        touched = self.tags_on_way(thing, steps)
        path = path_of(steps)
        touched.append(self.spot(path, thing) if word == "num" else self.tag_spot(path, thing))
        return touched

    def tags_on_way(self, thing, steps):
        """The places of the tags of the picks through which the steps go, the outermost first.

        Refuses a step that what is there doesn't let by.
        """
        touched = []
        kind = Nested(self.shapes.main())
        for at, step in enumerate(steps):
            if isinstance(kind, Pick):
                place = self.tag_spot(path_of(steps[:at]), thing)
                need_chosen(kind, self.room.taken(place), step)
                touched.append(place)
            need_element(kind, step)
            kind = kind.led(step)
        return touched

    def spot(self, path, thing):
        """The place of the word or tag of this path, be it a unit or within one."""
        if self.laying.is_unit(path):
            return self.laying.place(path, thing)
        return self.laying.leaf_place(path, thing)

    def tag_spot(self, path, thing):
        """The place of the tag of the pick of this path."""
        return self.spot(joined(path, "tag"), thing)

    def chosen_spot(self, pick, path, thing):
        """The place of what is chosen in the pick of this path."""
        if self.laying.is_unit(path):
            return self.laying.place(path, thing)
        cell, shift, bits = self.tag_spot(path, thing)
        return (cell + 1, 0, pick.greatest() * CELL_BITS)

    def value_at(self, kind, path, thing):
        """What the cells of the thing have for a field of this kind under the path."""
        if isinstance(kind, Num):
            return self.room.taken(self.spot(path, thing))
        if isinstance(kind, Pick):
            number = self.room.taken(self.tag_spot(path, thing))
            shape = kind.shapes[number]
            return (number, self.value_at(Nested(shape), joined(path, shape.name), thing))
        return gathered(kind, [self.value_at(inner, joined(path, step), thing) for step, inner in kind.parted()])
