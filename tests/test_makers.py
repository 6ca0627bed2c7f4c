"""Layings that are made for shapes: their texts, the least room, and what is refused."""

import copy
import random
import unittest

from roomslaid.errors import LaidTwice, NoLayings, NoPath, NoThings, Past, UnknownUnit
from roomslaid.layingtext import read_laying
from roomslaid.makers import apart, beside, by_blocks, by_field, by_thing, packed
from roomslaid.roompaper import paper
from roomslaid.shapetext import read_shapes
from tests.helper import DRAWING, ODD, PICKS, bits_of, laid_at, refusal, refused, some_text

SIMPLE = read_shapes("shape a\nx num 2\ny num 1")
FIGURES = read_shapes(DRAWING)
PICKED = read_shapes(PICKS)
ROW = read_shapes("shape a\nx row 1 num 3")
WIDE = read_shapes("shape a\nx row 6 num 4\ny row 6 num 4\nz row 4 num 4")
MAKERS = [
    by_thing, by_field, packed, lambda shapes, things: by_thing(shapes, things, 8),
    lambda shapes, things: by_blocks(shapes, things, 3), lambda shapes, things: apart(shapes, things, []),
    lambda shapes, things: beside(shapes, things, "x"),
]
NO_THINGS = [thing for thing in ODD if isinstance(thing, bool) or not isinstance(thing, int) or not 1 <= thing <= 64] + [0, 65]


def units(shapes):
    """The paths of the main shape's units."""
    return [path for path, width, sort in shapes.main().units()]


class ByHand(unittest.TestCase):

    def test_by_thing(self):
        self.assertEqual(by_thing(SIMPLE, 2), "room 6 things 2\npart 0 1 1 : x y")
        self.assertEqual(by_thing(SIMPLE, 1), "room 3 things 1\npart 0 1 1 : x y")
        self.assertEqual(by_thing(SIMPLE, 2, 4), "room 7 things 2\npart 0 1 4 : x y")
        self.assertEqual(by_thing(SIMPLE, 2, 3), "room 6 things 2\npart 0 1 3 : x y")
        self.assertEqual(by_thing(SIMPLE, 3, pad=64), "room 131 things 3\npart 0 1 64 : x y")
        self.assertEqual(by_thing(SIMPLE, 64, 1), "room 192 things 64\npart 0 1 1 : x y")

    def test_by_field(self):
        self.assertEqual(by_field(SIMPLE, 2), "room 6 things 2\npart 0 2 1 : x y")
        self.assertEqual(by_field(SIMPLE, 1), "room 3 things 1\npart 0 1 1 : x y")
        self.assertEqual(by_field(SIMPLE, 64), "room 192 things 64\npart 0 64 1 : x y")

    def test_by_blocks(self):
        self.assertEqual(by_blocks(SIMPLE, 4, 2), "room 12 things 4\npart 0 2 1 : x y")
        self.assertEqual(by_blocks(SIMPLE, 3, 2), "room 11 things 3\npart 0 2 1 : x y")
        self.assertEqual(by_blocks(SIMPLE, 1, 64), "room 129 things 1\npart 0 64 1 : x y")
        self.assertEqual(by_blocks(SIMPLE, 2, 1), "room 6 things 2\npart 0 1 1 : x y")

    def test_apart(self):
        self.assertEqual(apart(SIMPLE, 2, ["y"]), "room 6 things 2\npart 0 1 1 : y\npart 2 1 1 : x")
        self.assertEqual(apart(SIMPLE, 2, ["x"]), "room 6 things 2\npart 0 1 1 : x\npart 4 1 1 : y")

    def test_apart_none_and_all(self):
        self.assertEqual(apart(SIMPLE, 2, []), "room 6 things 2\npart 0 1 1 : x y")
        self.assertEqual(apart(SIMPLE, 2, ["x", "y"]), "room 6 things 2\npart 0 1 1 : x y")
        self.assertEqual(apart(SIMPLE, 2, ["y", "x"]), "room 6 things 2\npart 0 1 1 : x y")

    def test_apart_out_of_order(self):
        self.assertEqual(apart(PICKED, 2, ["w.0.s", "v", "v.tag"]), "\n".join([
            "room 34 things 2", "part 0 1 1 : v.tag v w.0.s", "part 20 1 1 : w.0.r.tag w.0.r w.1.r.tag w.1.r w.1.s"]))

    def test_beside(self):
        self.assertEqual(beside(PICKED, 2, "w"), "\n".join([
            "room 34 things 2", "part 0 1 1 : v.tag v",
            "part 18 1 1 : w.0.r.tag w.0.r w.0.s w.1.r.tag w.1.r w.1.s"]))
        self.assertEqual(beside(FIGURES, 3, "rows").split("\n")[1:], [
            "part 0 1 1 : what.tag what dots.0.x dots.0.y dots.1.x dots.1.y n dot.x dot.y",
            "part 60 1 1 : rows.0 rows.1 rows.2"])

    def test_beside_a_row_of_one_element_that_is_all(self):
        self.assertEqual(beside(ROW, 5, "x"), "room 15 things 5\npart 0 1 1 : x.0")

    def test_beside_names_that_are_beginnings_of_one_another(self):
        shapes = read_shapes("shape a\nx row 2 num 1\nxx row 1 num 1\nxxx num 1")
        self.assertEqual(beside(shapes, 1, "x"), "room 4 things 1\npart 0 1 1 : xx.0 xxx\npart 2 1 1 : x.0 x.1")
        self.assertEqual(beside(shapes, 1, "xx"), "room 4 things 1\npart 0 1 1 : x.0 x.1 xxx\npart 3 1 1 : xx.0")

    def test_packed(self):
        self.assertEqual(packed(PICKED, 2), "\n".join([
            "room 30 things 2", "part 0 1 1 : v w.0.r w.0.s w.1.r w.1.s", "tags 28 : v.tag w.0.r.tag w.1.r.tag"]))
        self.assertEqual(packed(PICKED, 1).split("\n")[0], "room 15 things 1")

    def test_packed_without_tags(self):
        self.assertEqual(packed(SIMPLE, 2), "room 6 things 2\npart 0 1 1 : x y")

    def test_the_widest(self):
        self.assertEqual(WIDE.main().size(), 64)
        self.assertEqual(by_thing(WIDE, 64, 64).split("\n")[0], "room 4096 things 64")
        self.assertEqual(by_field(WIDE, 64).split("\n")[0], "room 4096 things 64")
        self.assertEqual(by_blocks(WIDE, 64, 33).split("\n")[0], "room 4216 things 64")


class Least(unittest.TestCase):

    def is_least(self, shapes, text, wanted):
        """The text has parts of these units, one behind the other, in a room of which no cell can be left out."""
        laying = read_laying(shapes, text)
        self.assertEqual([list(part.laid) for part in laying.parts], [laid for laid in wanted if laid])
        behind = 0
        for part in laying.parts:
            self.assertEqual(part.base, behind)
            places = [laying.place(unit, thing) for unit in part.laid for thing in range(laying.things)]
            behind = 1 + max(max(bits_of(place)) // 8 for place in places)
        self.assertEqual(laying.room, behind)
        self.assertEqual(laid_at(shapes.main().units(), text), {
            (unit, thing): laying.place(unit, thing) for thing in range(laying.things) for unit in units(shapes)})
        self.assertNotIn(("free",), paper(laying))
        if laying.room > 1:
            less = text.replace("room %d " % laying.room, "room %d " % (laying.room - 1), 1)
            self.assertEqual(refusal(self, Past, read_laying, shapes, less).cell, laying.room - 1)

    def test_drawn(self):
        for seed in range(60):
            dice = random.Random(seed)
            shapes = read_shapes(some_text(seed))
            laid = units(shapes)
            tags = [path for path, width, sort in shapes.main().units() if sort == "tag"]
            for things in (1, 2, 5, 64):
                number = dice.choice([1, 2, 3, 8, 64])
                for text, block, pad in ((by_thing(shapes, things, number), 1, number), (by_field(shapes, things), things, 1),
                                         (by_blocks(shapes, things, number), number, 1), (by_thing(shapes, things), 1, 1)):
                    self.is_least(shapes, text, [laid])
                    self.assertEqual(text.split("\n")[1].split(" ")[:4], ["part", "0", str(block), str(pad)])
                hot = dice.sample(laid, dice.randint(0, len(laid)))
                sides = [[unit for unit in laid if (unit in hot) == side] for side in (True, False)]
                self.is_least(shapes, apart(shapes, things, hot), sides)
                self.is_least(shapes, packed(shapes, things), [[unit for unit in laid if unit not in tags], tags])
                for name, kind in shapes.main().fields:
                    if kind.word() == "row":
                        sides = [[unit for unit in laid if (unit.split(".")[0] == name) == side] for side in (False, True)]
                        self.is_least(shapes, beside(shapes, things, name), sides)

    def test_one_cell(self):
        shapes = read_shapes("shape a\nx num 1")
        for text in (by_thing(shapes, 1), by_field(shapes, 1), by_blocks(shapes, 1, 1), packed(shapes, 1), apart(shapes, 1, ["x"])):
            self.assertEqual(text, "room 1 things 1\npart 0 1 1 : x")
            self.is_least(shapes, text, [["x"]])

    def test_forms_of_parts(self):
        for text in (apart(PICKED, 3, ["v"]), beside(PICKED, 3, "w")):
            self.assertEqual([line.split(" ")[0:1] + line.split(" ")[2:4] for line in text.split("\n")[1:]], [["part", "1", "1"]] * 2)
        first, second = packed(PICKED, 3).split("\n")[1:]
        self.assertEqual((first.split(" ")[0:4], second.split(" ")[0]), (["part", "0", "1", "1"], "tags"))


class Refused(unittest.TestCase):

    def test_things_ahead_of_all_else(self):
        for thing in NO_THINGS:
            for shapes in (ROW, PICKED):
                for make in MAKERS:
                    refused(self, NoThings, {"found": thing}, make, shapes, thing)
                refused(self, NoThings, {"found": thing}, by_thing, shapes, thing, None)
                refused(self, NoThings, {"found": thing}, by_blocks, shapes, thing, 0)
                refused(self, NoThings, {"found": thing}, apart, shapes, thing, None)
                refused(self, NoThings, {"found": thing}, apart, shapes, thing, ["nothing"])
                refused(self, NoThings, {"found": thing}, beside, shapes, thing, 9)

    def test_pads_and_blocks(self):
        for thing in NO_THINGS:
            refused(self, NoLayings, {"found": thing}, by_thing, SIMPLE, 2, thing)
            refused(self, NoLayings, {"found": thing}, by_blocks, SIMPLE, 2, thing)
        for number in (1, 64):
            by_thing(SIMPLE, 2, number), by_blocks(SIMPLE, 2, number)

    def test_a_pad_by_its_name(self):
        with self.assertRaises(NoLayings) as caught:
            by_thing(SIMPLE, 2, pad=65)
        self.assertEqual(caught.exception.found, 65)

    def test_hot_ones_that_are_no_list(self):
        for thing in ODD + [("x",), "x", {"x": 0}]:
            if not isinstance(thing, list):
                refused(self, NoLayings, {"found": thing}, apart, SIMPLE, 2, thing)

    def test_hot_ones_that_are_no_units(self):
        for thing in ODD + ["v.d", "w", "w.0", "w.2.s", "w.00.s", "v.d.t", "tag", "v.tag.", ("v",), ["v"]]:
            refused(self, UnknownUnit, {"line": -1, "unit": thing}, apart, PICKED, 2, [thing])
            refused(self, UnknownUnit, {"line": -1, "unit": thing}, apart, PICKED, 2, ["v", "v.tag", thing, "z"])
            refused(self, UnknownUnit, {"line": -1, "unit": thing}, apart, PICKED, 2, ["v", "v", thing])

    def test_hot_ones_that_stand_twice(self):
        for hot, unit in ((["v", "v"], "v"), (["v", "w.0.s", "v.tag", "w.0.s", "v"], "w.0.s"), (["v", "v.tag", "v", "v.tag"], "v")):
            refused(self, LaidTwice, {"line": -1, "unit": unit}, apart, PICKED, 2, hot)

    def test_what_names_no_row(self):
        for thing in ODD + ["v", "w.0", "w.", ".w", "v.tag", ["w"], ("w",), "rows"]:
            refused(self, NoPath, {"path": thing}, beside, PICKED, 2, thing)
        for thing in ("what", "dots.0", "n", "dot", "fig", "row"):
            refused(self, NoPath, {"path": thing}, beside, FIGURES, 2, thing)

    def test_the_hot_ones_stay(self):
        hot = ["w.0.s", "v"]
        before = copy.deepcopy(hot)
        apart(PICKED, 2, hot)
        self.assertEqual(hot, before)


if __name__ == "__main__":
    unittest.main()
