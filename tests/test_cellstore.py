"""Stores that hold their things in the cells of a room: the same as plain ones, cell by cell and place by place."""

import copy
import random
import unittest

from roomslaid.cellstore import Cells
from roomslaid.errors import Beyond, NoPath, NoThings, Other, TooMuch
from roomslaid.flats import flat
from roomslaid.layingtext import read_laying
from roomslaid.records import blank
from roomslaid.shapetext import read_shapes
from roomslaid.stores import Plain, Store
from tests.helper import (
    DRAWING, ODD, PICKS, bits_in, bits_of, is_apart, laid_at, outcome, plain, refused, refused_at, some_deed, some_laying,
    some_record, some_text, spots, touched, wanted_bits)

FIGURES = read_shapes(DRAWING)
PICKED = read_shapes(PICKS)
SIMPLE = read_shapes("shape a\nx num 2\ny num 1")
CHOICES = {
    "v": (0, {"t": 9, "u": (0, {"r": (1, {"q": 513}), "s": 3})}),
    "w": [{"r": (0, {"p": 1}), "s": 2}, {"r": (1, {"q": 4}), "s": 5}],
}
# The unit v has eight cells: t three, the tag of u, the tag of r, two cells for what r chooses, s.
PACKED = "\n".join([
    "room 50 things 3",
    "tags 0 : v.tag w.0.r.tag w.1.r.tag",
    "part 4 1 1 : v w.0.r w.0.s w.1.r w.1.s",
])
BLOCKS = "\n".join([
    "room 90 things 3",
    "part 1 2 16 : w.1.s v v.tag",
    "part 60 3 1 : w.0.r.tag w.0.r w.0.s w.1.r w.1.r.tag",
])


def simple(text, *pairs):
    """Cells of things with these two words."""
    return Cells(read_laying(SIMPLE, text), [{"x": one, "y": other} for one, other in pairs])


def choices(text=PACKED, many=1):
    """Cells of so many equal things with picks within picks."""
    return Cells(read_laying(PICKED, text), [copy.deepcopy(CHOICES) for number in range(many)])


class Made(unittest.TestCase):

    def test_what_it_tells(self):
        laying = read_laying(PICKED, PACKED)
        cells = Cells(laying, [copy.deepcopy(CHOICES)])
        self.assertIsInstance(cells, Store)
        self.assertIs(cells.laying, laying)
        self.assertIs(cells.shapes, PICKED)
        self.assertEqual((cells.many(), cells.most(), cells.looks, cells.places), (1, 3, [], []))
        self.assertEqual(cells.records(), [CHOICES])

    def test_words_in_their_cells(self):
        cells = simple("room 9 things 2\npart 1 1 4 : y x", (513, 7), (65535, 255))
        self.assertEqual(cells.cells(), [0, 7, 1, 2, 0, 255, 255, 255, 0])
        cells = simple("room 7 things 2\npart 1 2 1 : x y", (513, 7), (256, 9))
        self.assertEqual(cells.cells(), [0, 1, 2, 0, 1, 7, 9])

    def test_picks_in_their_cells(self):
        self.assertEqual(choices().cells(), [
            0b010000, 0, 0, 0,
            9, 0, 0, 0, 1, 1, 2, 3,
            1, 0, 2, 4, 0, 5] + [0] * 32)
        wanted = {1: 5, 3: 9, 7: 1, 8: 1, 9: 2, 10: 3, 63: 1, 69: 2, 72: 4, 78: 1}
        self.assertEqual(choices(BLOCKS).cells(), [wanted.get(cell, 0) for cell in range(90)])

    def test_a_short_choice_leaves_the_rest_of_the_unit_0(self):
        record = dict(CHOICES, v=(1, {"q": 65535}))
        cells = Cells(read_laying(PICKED, PACKED), [record])
        self.assertEqual(cells.cells()[:13], [0b010001, 0, 0, 0, 255, 255, 0, 0, 0, 0, 0, 0, 1])

    def test_no_thing_and_most(self):
        for many in (0, 1, 3):
            cells = choices(many=many)
            self.assertEqual((cells.many(), cells.records()), (many, [CHOICES] * many))
        self.assertEqual(choices(many=0).cells(), [0] * 50)

    def test_the_widest_room_and_sixty_four_things(self):
        cells = simple("room 8192 things 64\npart 8000 1 1 : x y", *[(number, number) for number in range(64)])
        self.assertEqual(cells.cells()[8000:8006], [0, 0, 0, 1, 0, 1])
        self.assertEqual(cells.cells()[8189:], [63, 0, 63])
        refused_at(self, TooMuch, {"line": -1}, cells.put)

    def test_what_is_no_list_of_records(self):
        laying = read_laying(PICKED, PACKED)
        for thing in ODD:
            if thing == []:
                Cells(laying, thing)
                continue
            refused(self, NoThings, {"found": thing}, Cells, laying, thing)
            records = [copy.deepcopy(CHOICES), thing]
            refused(self, NoThings, {"found": records}, Cells, laying, records)
        for thing in ((CHOICES,), CHOICES, [[CHOICES]], [dict(CHOICES, w=tuple(CHOICES["w"]))], [dict(CHOICES, v=(True, {"q": 0}))],
                      [dict(CHOICES, v=(2, {"q": 0}))], [dict(CHOICES, z=0)], [CHOICES] * 4, [CHOICES] * 65):
            refused(self, NoThings, {"found": thing}, Cells, laying, thing)

    def test_copies_are_held(self):
        one = copy.deepcopy(CHOICES)
        records = [one, one]
        cells = Cells(read_laying(PICKED, PACKED), records)
        cells.store(0, ("w", 0, "s"), 77)
        self.assertEqual(records, [CHOICES, CHOICES])
        one["w"].clear()
        records.clear()
        self.assertEqual(cells.look(1, ("w", 0, "s")), 2)

    def test_lists_are_new_each_time(self):
        cells = choices(many=2)
        self.assertTrue(is_apart(cells.records(), cells.records(), cells.cells(), cells.cells()))
        cells.cells().clear()
        cells.records()[0]["w"].clear()
        self.assertEqual((len(cells.cells()), cells.records()), (50, [CHOICES, CHOICES]))

    def test_two_of_one_laying_have_nothing_in_common(self):
        laying = read_laying(PICKED, PACKED)
        one, other = Cells(laying, [copy.deepcopy(CHOICES)]), Cells(laying, [copy.deepcopy(CHOICES)])
        before = other.cells()
        one.store(0, ("w", 0, "s"), 77)
        one.put()
        self.assertEqual((other.cells(), other.many(), other.looks, other.places), (before, 1, [], []))


class Places(unittest.TestCase):

    def test_look_and_store(self):
        cells = simple("room 9 things 2\npart 1 1 4 : y x", (513, 7), (65535, 255))
        cells.look(0, ("x",))
        cells.look(1, ("y",))
        cells.store(1, ("x",), 5)
        self.assertEqual(cells.places, [[(2, 0, 16)], [(5, 0, 8)], [(6, 0, 16)]])

    def test_tags_on_the_way(self):
        cells = choices()
        cells.look(0, ("v", "d", "u", "c", "r", "b", "q"))
        cells.store(0, ("v", "d", "u", "c", "s"), 1)
        cells.look(0, ("v", "d", "t"))
        cells.look(0, ("w", 1, "r", "b", "q"))
        cells.look(0, ("w", 1, "s"))
        self.assertEqual(cells.places, [
            [(0, 0, 2), (7, 0, 8), (8, 0, 8), (9, 0, 16)],
            [(0, 0, 2), (7, 0, 8), (11, 0, 8)],
            [(0, 0, 2), (4, 0, 24)],
            [(0, 4, 2), (15, 0, 16)],
            [(17, 0, 8)],
        ])

    def test_which(self):
        cells = choices()
        cells.which(0, ("v",))
        cells.which(0, ("v", "d", "u"))
        cells.which(0, ("v", "d", "u", "c", "r"))
        cells.which(0, ("w", 1, "r"))
        self.assertEqual(cells.places, [
            [(0, 0, 2)], [(0, 0, 2), (7, 0, 8)], [(0, 0, 2), (7, 0, 8), (8, 0, 8)], [(0, 4, 2)]])

    def test_choose(self):
        cells = choices()
        cells.choose(0, ("v", "d", "u", "c", "r"), 0)
        cells.choose(0, ("v", "d", "u"), 1)
        cells.choose(0, ("w", 0, "r"), 1)
        cells.choose(0, ("v",), 1)
        self.assertEqual(cells.places, [
            [(0, 0, 2), (7, 0, 8), (9, 0, 16), (8, 0, 8)],
            [(0, 0, 2), (8, 0, 32), (7, 0, 8)],
            [(12, 0, 16), (0, 2, 2)],
            [(4, 0, 64), (0, 0, 2)],
        ])

    def test_choose_with_a_tag_in_a_whole_cell(self):
        cells = choices(BLOCKS)
        cells.choose(0, ("v",), 1)
        cells.choose(0, ("w", 1, "r"), 0)
        self.assertEqual(cells.places, [[(3, 0, 64), (19, 0, 8)], [(72, 0, 16), (78, 0, 8)]])

    def test_copy(self):
        cells = choices(many=2)
        cells.copy(0, 1)
        units = PICKED.main().units()
        laid = laid_at(units, PACKED)
        self.assertEqual(cells.places, [[laid[unit, thing] for unit, width, sort in units for thing in (1, 0)]])
        self.assertEqual(cells.places[0][:4], [(0, 6, 2), (0, 0, 2), (18, 0, 64), (4, 0, 64)])

    def test_copy_onto_itself(self):
        cells = simple("room 9 things 2\npart 1 1 4 : y x", (513, 7), (65535, 255))
        before = cells.cells()
        self.assertIsNone(cells.copy(1, 1))
        self.assertEqual(cells.places, [[(6, 0, 16), (6, 0, 16), (5, 0, 8), (5, 0, 8)]])
        self.assertEqual(cells.cells(), before)

    def test_put(self):
        cells = simple("room 9 things 2\npart 1 1 4 : y x", (513, 7))
        self.assertEqual(cells.put(), 1)
        self.assertEqual(cells.places, [[(6, 0, 16), (5, 0, 8)]])

    def test_take(self):
        cells = simple("room 12 things 3\npart 0 1 4 : y x", (1, 2), (3, 4), (5, 6))
        self.assertEqual(cells.take(0), 2)
        self.assertEqual(cells.take(1), 1)
        self.assertEqual(cells.take(0), 0)
        self.assertEqual(cells.places, [[(9, 0, 16), (1, 0, 16), (8, 0, 8), (0, 0, 8)], [], []])
        self.assertEqual(cells.records(), [])

    def test_many_most_records_and_cells_touch_nothing(self):
        cells = choices()
        cells.many(), cells.most(), cells.records(), cells.cells()
        self.assertEqual((cells.looks, cells.places), ([], []))

    def test_what_is_refused_touches_nothing(self):
        cells = choices()
        before = cells.cells()
        for kind, found, deed in (
            (Beyond, 1, ("look", 1, ("w", 0, "s"))), (Beyond, 3, ("copy", 0, 3)), (Beyond, -1, ("take", -1)),
            (Beyond, 2, ("look", 0, ("w", 2, "s"))), (Other, "b", ("look", 0, ("v", "b", "q"))),
            (Other, "a", ("store", 0, ("v", "d", "u", "a", "p"), 1)), (Beyond, 2, ("choose", 0, ("v",), 2)),
            (Beyond, True, ("choose", 0, ("v",), True)), (Other, "a", ("look", 0, ("w", 1, "r", "a", "p"))),
            (Beyond, 7, ("choose", 0, ("w", 7, "r"), 0)),
        ):
            name, *handed = deed
            refused(self, kind, {"found": found}, getattr(cells, name), *handed)
        for steps in ODD + [("v",), ("w", 0), ("w", True, "s"), ["w", 0, "s"], ("v", "tag")]:
            refused(self, NoPath, {"path": steps}, cells.look, 0, steps)
            refused(self, NoPath, {"path": steps}, cells.store, 0, steps, 1)
        for steps in ODD + [("v", "d", "t"), ("w", 0), ("w", True, "r"), ["v"], ("v", "d"), ("v", "tag")]:
            refused(self, NoPath, {"path": steps}, cells.which, 0, steps)
            refused(self, NoPath, {"path": steps}, cells.choose, 0, steps, 9)
        for thing in ODD:
            if isinstance(thing, bool) or thing != 0:
                refused(self, Beyond, {"found": thing}, cells.look, thing, ("w", 0, "s"))
                refused(self, Beyond, {"found": thing}, cells.take, thing)
                refused(self, Beyond, {"found": thing}, cells.copy, 0, thing)
        self.assertEqual((cells.looks, cells.places, cells.cells()), ([], [], before))

    def test_put_where_there_is_no_room(self):
        cells = choices(many=3)
        before = cells.cells()
        refused_at(self, TooMuch, {"line": -1}, cells.put)
        self.assertEqual((cells.looks, cells.places, cells.cells(), cells.many()), ([], [], before, 3))


class Contents(unittest.TestCase):

    def test_the_rest_is_stored(self):
        for word in (0, 255, 256, 65536, -1, 10 ** 29, -(10 ** 29)):
            cells = simple("room 9 things 2\npart 1 1 4 : y x", (513, 7), (65535, 255))
            self.assertEqual(cells.store(0, ("x",), word), word % 65536)
            self.assertEqual(cells.store(1, ("y",), word), word % 256)
            self.assertEqual(cells.records(), [{"x": word % 65536, "y": 7}, {"x": 65535, "y": word % 256}])

    def test_what_is_chosen_becomes_blank(self):
        cells = choices()
        cells.choose(0, ("v", "d", "u"), 0)
        self.assertEqual(cells.cells()[4:12], [9, 0, 0, 0, 0, 0, 0, 0])
        cells = choices()
        cells.choose(0, ("v", "d", "u"), 1)
        self.assertEqual(cells.cells()[4:12], [9, 0, 0, 1, 0, 0, 0, 0])
        cells.store(0, ("v", "d", "u", "a", "p"), 8)
        self.assertEqual(cells.cells()[4:12], [9, 0, 0, 1, 8, 0, 0, 0])
        cells.choose(0, ("v",), 1)
        self.assertEqual(cells.cells()[4:12], [0] * 8)
        self.assertEqual(cells.cells()[0], 0b010001)
        self.assertEqual(cells.choose(0, ("v",), 0), 0)
        self.assertEqual(cells.records()[0]["v"], blank(PICKED.main())["v"])

    def test_cells_of_things_that_were_taken(self):
        cells = simple("room 6 things 2\npart 0 1 1 : x y", (513, 7), (65535, 255))
        cells.take(1)
        self.assertEqual(cells.records(), [{"x": 513, "y": 7}])
        cells.put()
        self.assertEqual(cells.records(), [{"x": 513, "y": 7}, {"x": 0, "y": 0}])
        self.assertEqual(cells.cells(), [1, 2, 7, 0, 0, 0])

    def test_packed_tags_beside_one_another_stay(self):
        cells = choices(many=3)
        before = [record["v"][0] for record in cells.records()]
        cells.choose(1, ("w", 0, "r"), 1)
        cells.choose(1, ("v",), 1)
        self.assertEqual([record["v"][0] for record in cells.records()], [before[0], 1, before[2]])
        self.assertEqual([record["w"] for record in cells.records()], [
            CHOICES["w"], [{"r": (1, {"q": 0}), "s": 2}, CHOICES["w"][1]], CHOICES["w"]])

    def test_four_shapes_in_a_packed_tag(self):
        shapes = read_shapes("\n".join("shape %s\nx num %d" % row for row in zip("abcd", (1, 2, 3, 4))) + "\nshape e\np pick a b c d")
        records = [{"p": (number, {"x": 200})} for number in (3, 2, 1, 0, 3)]
        cells = Cells(read_laying(shapes, "room 22 things 5\ntags 20 : p.tag\npart 0 1 1 : p"), records)
        self.assertEqual(cells.cells()[20:], [0b00011011, 0b11])
        self.assertEqual(cells.records(), records)
        self.assertEqual([cells.which(thing, ("p",)) for thing in range(5)], [3, 2, 1, 0, 3])
        cells.choose(2, ("p",), 3)
        self.assertEqual(cells.cells()[20:], [0b00111011, 0b11])

    def test_inner_methods(self):
        cells = choices(many=2)
        self.assertEqual(cells.word_at(1, ("w", 0, "s")), 2)
        self.assertEqual(cells.word_set(1, ("w", 0, "s"), 258), 2)
        self.assertEqual(cells.tag_at(0, ("v", "d", "u", "c", "r")), 1)
        self.assertEqual(cells.tag_set(0, ("v",), 1), 1)
        self.assertIsNone(cells.copied_over(1, 0))
        self.assertEqual(cells.blank_put(), 2)
        self.assertEqual(cells.last_taken(0), 2)
        self.assertEqual(cells.looks, [])
        self.assertEqual(cells.records(), [blank(PICKED.main()), dict(CHOICES, v=(1, {"q": 0}))])
        self.assertIsNone(cells.ahead(3))


class Drawn(unittest.TestCase):

    def test_the_same_deeds_as_of_a_plain_store(self):
        kinds = set()
        for seed in range(60):
            dice = random.Random(seed)
            shapes = read_shapes(some_text(seed))
            things = dice.choice([1, 2, 5])
            text = some_laying(shapes.main(), dice, things)
            records = [some_record(shapes.main(), dice) for number in range(dice.randint(0, things))]
            cells, store = Cells(read_laying(shapes, text), records), Plain(shapes, things, records)
            for number in range(60):
                kinds.add(self.one_deed(shapes, text, cells, store, some_deed(shapes.main(), dice, store.many())))
            self.assertEqual(plain(cells.looks), plain(store.looks))
        self.assertEqual(kinds, {"look", "store", "which", "choose", "copy", "put", "take", "refused"})

    def one_deed(self, shapes, text, cells, store, deed):
        at = spots(shapes, text)
        before, places, records = cells.cells(), copy.deepcopy(cells.places), store.records()
        told = outcome(store, deed)
        self.assertEqual(outcome(cells, deed), told, deed)
        self.assertEqual(cells.records(), store.records())
        self.assertEqual(cells.many(), store.many())
        if told[0] == "(":
            self.assertEqual((cells.cells(), cells.places), (before, places))
            return "refused"
        record = records[deed[1]] if len(deed) > 1 else None
        number = int(told) if told != "None" else None
        self.assertEqual(cells.places, places + [touched(shapes, at, record, deed, number)], deed)
        had = set().union(*[bits_of(place) for place in cells.places[-1]])
        self.assertLessEqual(bits_in(before) ^ bits_in(cells.cells()), had, deed)
        self.cells_are(shapes, at, cells, store.records())
        return deed[0]

    def cells_are(self, shapes, at, cells, records):
        units = [unit for unit, width, sort in shapes.main().units()]
        there = set().union(*[bits_of(at[unit, thing]) for unit in units for thing in range(len(records))])
        self.assertEqual(bits_in(cells.cells()) & there, wanted_bits(shapes, at, records))
        words = [bit for thing, record in enumerate(records) for path, number in flat(shapes.main(), record)
                 for bit in bits_of(at[path, thing])]
        self.assertEqual(len(words), len(set(words)))

    def test_ahead_of_all_deeds(self):
        for seed in range(60):
            dice = random.Random(seed)
            shapes = read_shapes(some_text(seed))
            text = some_laying(shapes.main(), dice, 4)
            records = [some_record(shapes.main(), dice) for number in range(dice.randint(0, 4))]
            cells = Cells(read_laying(shapes, text), records)
            self.assertEqual(bits_in(cells.cells()), wanted_bits(shapes, spots(shapes, text), records))
            self.assertEqual(cells.records(), records)


if __name__ == "__main__":
    unittest.main()
