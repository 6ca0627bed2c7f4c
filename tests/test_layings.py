"""Layings: what they tell of themselves, and the places of units and leaves."""

import random
import unittest

from roomslaid.errors import NoPath, NoThings, UnknownUnit
from roomslaid.layings import Block, Laying, Packed, Part
from roomslaid.layingtext import read_laying
from roomslaid.shapetext import read_shapes
from tests.helper import DRAWING, ODD, PICKS, bits_of, laid_at, refused, some_laying, some_text

FIGURES = read_shapes(DRAWING)
PICKED = read_shapes(PICKS)
DRAWN = "\n".join([
    "room 400 things 5",
    "part 3 2 4 : n rows.1 dot.x",
    "tags 200 : what.tag",
    "part 100 1 1 : what rows.0",
    "part 210 5 1 : rows.2 dots.0.x dots.0.y dots.1.x dots.1.y dot.y",
])
CHOSEN = "\n".join([
    "room 99 things 3",
    "tags 0 : v.tag w.0.r.tag w.1.r.tag",
    "part 10 1 16 : v w.0.r w.0.s w.1.r w.1.s",
])


def numbers_of(things):
    """Things of all kinds that are no numbers of one of so many things."""
    return [thing for thing in ODD if isinstance(thing, bool) or not isinstance(thing, int) or not 0 <= thing < things]


class Told(unittest.TestCase):

    def test_what_a_laying_tells(self):
        laying = read_laying(FIGURES, DRAWN)
        self.assertIsInstance(laying, Laying)
        self.assertIs(laying.shapes, FIGURES)
        self.assertEqual((laying.room, laying.things), (400, 5))
        self.assertEqual(laying.text(), DRAWN)
        self.assertIsInstance(laying.parts, tuple)
        self.assertEqual(len(laying.parts), 4)

    def test_what_parts_tell(self):
        first, second, third, fourth = read_laying(FIGURES, DRAWN).parts
        self.assertEqual((first.base, first.block, first.pad, first.laid), (3, 2, 4, ("n", "rows.1", "dot.x")))
        self.assertEqual((second.base, second.laid), (200, ("what.tag",)))
        self.assertEqual((third.base, third.block, third.pad, third.laid), (100, 1, 1, ("what", "rows.0")))
        laid = ("rows.2", "dots.0.x", "dots.0.y", "dots.1.x", "dots.1.y", "dot.y")
        self.assertEqual((fourth.base, fourth.block, fourth.pad, fourth.laid), (210, 5, 1, laid))
        for part in (first, third, fourth):
            self.assertIs(part.__class__, Block)
        self.assertIs(second.__class__, Packed)
        for part in (first, second):
            self.assertIsInstance(part, Part)
            self.assertIsInstance(part.laid, tuple)

    def test_neither_part_stands_under_the_other(self):
        self.assertEqual((Block.__base__, Packed.__base__), (Part, Part))

    def test_two_layings_of_one_text_tell_alike(self):
        one, other = read_laying(FIGURES, DRAWN), read_laying(read_shapes(DRAWING), DRAWN)
        for unit, width, sort in FIGURES.main().units():
            for thing in range(5):
                self.assertEqual(one.place(unit, thing), other.place(unit, thing))


class Places(unittest.TestCase):

    def test_of_blocks(self):
        laying = read_laying(FIGURES, DRAWN)
        # Widths 3, 2 and 2 in blocks of two things: 14 cells, padded to 16.
        self.assertEqual([laying.place("n", thing) for thing in range(5)],
                         [(3, 0, 24), (6, 0, 24), (19, 0, 24), (22, 0, 24), (35, 0, 24)])
        self.assertEqual([laying.place("rows.1", thing) for thing in range(5)],
                         [(9, 0, 16), (11, 0, 16), (25, 0, 16), (27, 0, 16), (41, 0, 16)])
        self.assertEqual([laying.place("dot.x", thing) for thing in range(5)],
                         [(13, 0, 16), (15, 0, 16), (29, 0, 16), (31, 0, 16), (45, 0, 16)])

    def test_thing_by_thing(self):
        laying = read_laying(FIGURES, DRAWN)
        self.assertEqual([laying.place("what", thing) for thing in range(5)],
                         [(cell, 0, 56) for cell in (100, 109, 118, 127, 136)])
        self.assertEqual([laying.place("rows.0", thing) for thing in range(5)],
                         [(cell, 0, 16) for cell in (107, 116, 125, 134, 143)])

    def test_field_by_field(self):
        laying = read_laying(FIGURES, DRAWN)
        self.assertEqual([laying.place("rows.2", thing) for thing in range(5)],
                         [(cell, 0, 16) for cell in (210, 212, 214, 216, 218)])
        self.assertEqual([laying.place("dots.0.y", thing) for thing in range(5)],
                         [(cell, 0, 8) for cell in (230, 231, 232, 233, 234)])
        self.assertEqual([laying.place("dot.y", thing) for thing in range(5)],
                         [(cell, 0, 8) for cell in (250, 251, 252, 253, 254)])

    def test_of_packed_tags(self):
        laying = read_laying(FIGURES, DRAWN)
        self.assertEqual([laying.place("what.tag", thing) for thing in range(5)],
                         [(200, 0, 2), (200, 2, 2), (200, 4, 2), (200, 6, 2), (201, 0, 2)])
        laying = read_laying(PICKED, CHOSEN)
        tags = [laying.place(unit, thing) for thing in range(3) for unit in ("v.tag", "w.0.r.tag", "w.1.r.tag")]
        self.assertEqual(tags, [(0, 0, 2), (0, 2, 2), (0, 4, 2), (0, 6, 2), (1, 0, 2), (1, 2, 2), (1, 4, 2), (1, 6, 2),
                                (2, 0, 2)])

    def test_of_tags_in_whole_cells(self):
        shapes = read_shapes("shape a\nx num 1\nshape b\nx num 2\nshape c\np pick a b")
        laying = read_laying(shapes, "room 9 things 3\npart 0 1 1 : p p.tag")
        self.assertEqual([laying.place("p.tag", thing) for thing in range(3)], [(2, 0, 8), (5, 0, 8), (8, 0, 8)])

    def test_pads(self):
        shapes = read_shapes("shape a\nx num 3")
        for pad, second in ((1, 3), (2, 4), (3, 3), (4, 4), (5, 5), (63, 63), (64, 64)):
            laying = read_laying(shapes, "room 99 things 2\npart 7 1 %d : x" % pad)
            self.assertEqual(laying.place("x", 1), (7 + second, 0, 24), pad)
        for block, pad, third in ((2, 1, 6), (2, 6, 6), (2, 7, 7), (2, 64, 64), (1, 64, 128)):
            laying = read_laying(shapes, "room 199 things 3\npart 0 %d %d : x" % (block, pad))
            self.assertEqual(laying.place("x", 2), (third, 0, 24), (block, pad))

    def test_sixty_four_things_in_the_widest_room(self):
        fields = "\n".join("%s row 4 num 4" % name for name in "abcd")
        shapes = read_shapes("shape a\n" + fields)
        units = " ".join(path for path, width, sort in shapes.main().units())
        for block in (1, 64, 63):
            text = "room 8192 things 64\npart 0 %d 1 : %s" % (block, units)
            laying = read_laying(shapes, text)
            places = laid_at(shapes.main().units(), text)
            self.assertEqual(len(places), 16 * 64)
            self.assertEqual({key: laying.place(*key) for key in places}, places)

    def test_drawn_ones(self):
        for seed in range(150):
            dice = random.Random(seed)
            shapes = read_shapes(some_text(seed))
            text = some_laying(shapes.main(), dice, dice.choice([1, 2, 3, 5, 8]))
            laying = read_laying(shapes, text)
            places = laid_at(shapes.main().units(), text)
            self.assertEqual({key: laying.place(*key) for key in places}, places)
            bits = [bit for place in places.values() for bit in bits_of(place)]
            self.assertEqual(len(bits), len(set(bits)))
            self.assertLess(max(bits) // 8, laying.room)

    def test_refused_units(self):
        laying = read_laying(FIGURES, DRAWN)
        for unit in ODD + ["what.line", "what.circ.r", "rows", "rows.3", "rows.01", "dots.0", "dot", "tag", "n.", ".n", " n",
                           "n n", "N", "what.tag.tag", ("n",), ["n"], {"n": 0}, b"n"]:
            refused_unit(self, laying, unit, 0)

    def test_refused_things(self):
        laying = read_laying(FIGURES, DRAWN)
        for thing in numbers_of(5) + [5, 6, 64, -5, "0", (0,), [0]]:
            refused(self, NoThings, {"found": thing}, laying.place, "n", thing)
        for thing in range(5):
            laying.place("n", thing)

    def test_the_unit_is_refused_first(self):
        laying = read_laying(FIGURES, DRAWN)
        for thing in (5, -1, None, True, "m", []):
            refused_unit(self, laying, "m", thing)
            refused_unit(self, laying, thing, thing)


def refused_unit(case, laying, unit, thing):
    """Asserts that this unit is refused, with the very thing."""
    refused(case, UnknownUnit, {"line": -1, "unit": unit}, laying.place, unit, thing)


class LeafPlaces(unittest.TestCase):

    def test_outside_of_picks(self):
        laying = read_laying(FIGURES, DRAWN)
        for path in ("n", "rows.0", "rows.1", "rows.2", "dots.0.x", "dots.1.y", "dot.x"):
            for thing in range(5):
                self.assertEqual(laying.leaf_place(path, thing), laying.place(path, thing))

    def test_within_a_pick(self):
        laying = read_laying(FIGURES, DRAWN)
        for path, offset, width in (
            ("what.line.from.x", 0, 2), ("what.line.from.y", 2, 1), ("what.line.to.x", 3, 2), ("what.line.to.y", 5, 1),
            ("what.circ.mid.x", 0, 2), ("what.circ.mid.y", 2, 1), ("what.circ.r", 3, 4),
        ):
            for thing in range(5):
                self.assertEqual(laying.leaf_place(path, thing), (100 + 9 * thing + offset, 0, 8 * width))

    def test_in_picks_within_picks_and_in_rows(self):
        laying = read_laying(PICKED, CHOSEN)
        self.assertEqual(laying.place("v", 1), (26, 0, 64))
        for path, place in (
            ("v.d.t", (26, 0, 24)), ("v.d.u.tag", (29, 0, 8)), ("v.d.u.c.r.tag", (30, 0, 8)),
            ("v.d.u.c.r.a.p", (31, 0, 8)), ("v.d.u.c.r.b.q", (31, 0, 16)), ("v.d.u.c.s", (33, 0, 8)),
            ("v.d.u.a.p", (30, 0, 8)), ("v.b.q", (26, 0, 16)), ("w.0.r.a.p", (34, 0, 8)), ("w.0.r.b.q", (34, 0, 16)),
            ("w.0.s", (36, 0, 8)), ("w.1.r.a.p", (37, 0, 8)), ("w.1.r.b.q", (37, 0, 16)), ("w.1.s", (39, 0, 8)),
        ):
            self.assertEqual(laying.leaf_place(path, 1), place, path)

    def test_drawn_ones(self):
        for seed in range(80):
            dice = random.Random(seed)
            shapes = read_shapes(some_text(seed))
            laying = read_laying(shapes, some_laying(shapes.main(), dice, 3))
            for path, width, unit, offset, holds in shapes.main().leaves():
                for thing in range(3):
                    place = (laying.place(unit, thing)[0] + offset, 0, 8 * width)
                    self.assertEqual(laying.leaf_place(path, thing), place)
                    self.assertLessEqual(bits_of(place), bits_of(laying.place(unit, thing)))

    def test_refused_paths(self):
        laying = read_laying(FIGURES, DRAWN)
        for path in ODD + ["what", "what.tag", "what.line", "what.line.from", "what.circ.tag", "rows", "rows.3", "dots.0",
                           "dot", "what.circ.r.", "what.circ.x", ("n",), ["n"]]:
            refused(self, NoPath, {"path": path}, laying.leaf_place, path, 0)
        laying = read_laying(PICKED, CHOSEN)
        for path in ("v", "v.tag", "v.d", "v.d.u", "v.d.u.c.r", "w.0.r.tag", "w.0.r", "w.2.s", "v.d.tag"):
            refused(self, NoPath, {"path": path}, laying.leaf_place, path, 0)

    def test_refused_things(self):
        laying = read_laying(FIGURES, DRAWN)
        for path in ("n", "what.circ.r"):
            for thing in numbers_of(5) + [5, 64, -5]:
                refused(self, NoThings, {"found": thing}, laying.leaf_place, path, thing)

    def test_the_path_is_refused_first(self):
        laying = read_laying(FIGURES, DRAWN)
        for thing in (5, -1, None, True, []):
            refused(self, NoPath, {"path": "what"}, laying.leaf_place, "what", thing)


if __name__ == "__main__":
    unittest.main()
