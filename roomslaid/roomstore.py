"""What the stores have in common that hold their things in rooms of cells, by layings."""

from roomslaid.errors import Beyond
from roomslaid.flats import flat
from roomslaid.records import asked_kind, gathered, is_number_of, kind_at, need_chosen, need_element
from roomslaid.room import CELL_BITS, Room
from roomslaid.shapes import Nested, Num, Pick, joined
from roomslaid.stores import Store, need_records, path_of


class RoomStore(Store):
    """Things in rooms of cells, one room for each laying; it is not made by itself.

    Each such store tells by `side_of` the number of the room in which a thing
    lies, and by `shown` what is kept of the spots that a look touches. A spot is
    a tuple of the number of a room and a place of it.
    """

    def __init__(self, layings, records):
        first = layings[0]
        Store.__init__(self, first.shapes, first.things)
        need_records(first.shapes, first.things, records)
        self.layings = tuple(layings)
        self.rooms = tuple([Room(laying.room) for laying in layings])
        self.unit_paths = tuple([path for path, width, sort in first.shapes.main().units()])
        self.places = []
        self.there = len(records)

    def lay_records(self, records):
        """Leaves the words and tags of the records where their things lie."""
        for thing, record in enumerate(records):
            for path, number in flat(self.shapes.main(), record):
                self.put_at(self.spot(path, thing), number)

    def side_of(self, thing):
        """The number of the room in which the thing lies."""

    def shown(self, spots):
        """What is kept of the spots that a look touches, a new list."""

    def word_at(self, thing, steps):
        return self.looked_up(thing, steps, "num")

    def word_set(self, thing, steps, word):
        touched = self.way_to(thing, steps, "num")
        self.put_at(touched[-1], word)
        self.places.append(self.shown(touched))
        return self.number_at(touched[-1])

    def tag_at(self, thing, steps):
        return self.looked_up(thing, steps, "pick")

    def tag_set(self, thing, steps, number):
        touched = self.way_to(thing, steps, "pick")
        pick = kind_at(self.shapes.main(), steps)
        if not is_number_of(pick, number):
            raise Beyond(number)
        within = self.chosen_spot(pick, path_of(steps), thing)
        self.put_at(within, 0)
        self.put_at(touched[-1], number)
        self.places.append(self.shown(touched[:-1] + [within] + touched[-1:]))
        return number

    def copied_over(self, thing, other):
        self.places.append(self.shown(self.brought(thing, other)))

    def blank_put(self):
        number = self.there
        touched = self.unit_spots(number, self.side_of(number))
        for spot in touched:
            self.put_at(spot, 0)
        self.places.append(self.shown(touched))
        self.there += 1
        return number

    def last_taken(self, thing):
        last = self.there - 1
        self.places.append(self.shown(self.brought(thing, last) if thing != last else []))
        self.there = last
        return last

    def many(self):
        return self.there

    def records(self):
        return [self.value_at(Nested(self.shapes.main()), "", thing) for thing in range(self.there)]

    def looked_up(self, thing, steps, word):
        """The number of what the steps lead to, which has to be of this word: a num's, or that of a pick's tag."""
        touched = self.way_to(thing, steps, word)
        self.places.append(self.shown(touched))
        return self.number_at(touched[-1])

    def number_at(self, spot):
        """The whole number that the spot has."""
        side, place = spot
        return self.rooms[side].taken(place)

    def put_at(self, spot, number):
        """Leaves the number at the spot."""
        side, place = spot
        self.rooms[side].left(place, number)

    def unit_spots(self, thing, side):
        """The spots of all units of the thing in the room of this number."""
        laying = self.layings[side]
        return [(side, laying.place(unit, thing)) for unit in self.unit_paths]

    def brought(self, thing, other):
        """Brings each unit of the other thing to this one, and tells the spots that this touches."""
        sources = self.unit_spots(other, self.side_of(other))
        return self.carried(sources, self.unit_spots(thing, self.side_of(thing)))

    def carried(self, sources, goals):
        """Brings what the sources have to the goals, and tells the spots that this touches."""
        touched = []
        for source, goal in zip(sources, goals):
            self.put_at(goal, self.number_at(source))
            touched.extend([source, goal])
        return touched

    def way_to(self, thing, steps, word):
        """The spots of the tags on the way to what has to be of this word, and behind them its own spot or tag's."""
        asked_kind(self.shapes.main(), steps, word)
        touched = self.tags_on_way(thing, steps)
        path = path_of(steps)
        touched.append(self.spot(path, thing) if word == "num" else self.tag_spot(path, thing))
        return touched

    def tags_on_way(self, thing, steps):
        """The spots of the tags of the picks through which the steps go, the outermost first.

        Refuses a step that what is there doesn't let by.
        """
        touched = []
        kind = Nested(self.shapes.main())
        for at, step in enumerate(steps):
            if isinstance(kind, Pick):
                tag = self.tag_spot(path_of(steps[:at]), thing)
                need_chosen(kind, self.number_at(tag), step)
                touched.append(tag)
            need_element(kind, step)
            kind = kind.led(step)
        return touched

    def spot(self, path, thing):
        """The spot of the word or tag of this path, be it a unit or within one."""
        side = self.side_of(thing)
        laying = self.layings[side]
        return (side, laying.place(path, thing) if laying.is_unit(path) else laying.leaf_place(path, thing))

    def tag_spot(self, path, thing):
        """The spot of the tag of the pick of this path."""
        return self.spot(joined(path, "tag"), thing)

    def chosen_spot(self, pick, path, thing):
        """The spot of what is chosen in the pick of this path."""
        if path in self.unit_paths:
            return self.spot(path, thing)
        side, (cell, shift, bits) = self.tag_spot(path, thing)
        return (side, (cell + 1, 0, pick.greatest() * CELL_BITS))

    def value_at(self, kind, path, thing):
        """What the cells of the thing have for a field of this kind under the path."""
        if isinstance(kind, Num):
            return self.number_at(self.spot(path, thing))
        if isinstance(kind, Pick):
            number = self.number_at(self.tag_spot(path, thing))
            shape = kind.shapes[number]
            return (number, self.value_at(Nested(shape), joined(path, shape.name), thing))
        return gathered(kind, [self.value_at(inner, joined(path, step), thing) for step, inner in kind.parted()])
