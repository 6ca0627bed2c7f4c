"""The text of a laying is read, or refused with the first line, unit or place that is wrong."""

import random
import unittest

from roomslaid.errors import Lacking, LaidTwice, Meets, NoLaying, Past, UnknownUnit
from roomslaid.layings import Laying
from roomslaid.layingtext import read_laying
from roomslaid.shapetext import read_shapes
from tests.helper import DRAWING, ODD, bits_of, laid_at, refusal, refused_at, some_laying, some_text

FIGURES = read_shapes(DRAWING)
ONE = read_shapes("shape a\nx num 1")
PAIR = read_shapes("shape a\nx num 2\ny num 1")
TAGGED = read_shapes("shape a\nx num 1\nshape b\nx num 2\nshape c\np pick a b\nn num 1\nm num 2")
TWO_TAGS = read_shapes("shape a\nx num 1\nshape b\ny num 1\nshape c\np pick a b\nq pick b a")
FORTY = read_shapes("shape p\nx num 1\ny num 1\nshape q\na row 6 p\nb row 6 p\nc row 6 p\nd row 2 p")


def forty_parts():
    """A text that lays each of forty units in a part of its own."""
    paths = [path for path, width, sort in FORTY.main().units()]
    return "\n".join(["room 40 things 1"] + ["part %d 1 1 : %s" % row for row in enumerate(paths)])


class Case(unittest.TestCase):

    def read(self, shapes, *lines):
        laying = read_laying(shapes, "\n".join(lines))
        self.assertIsInstance(laying, Laying)
        self.assertEqual(laying.text(), "\n".join(lines))
        return laying

    def refused(self, kind, fields, shapes, *lines):
        refused_at(self, kind, fields, read_laying, shapes, "\n".join(lines))


class Forms(Case):

    def test_no_texts(self):
        for thing in ODD:
            if not isinstance(thing, str):
                refused_at(self, NoLaying, {"line": 0}, read_laying, ONE, thing)

    def test_line_0(self):
        part = "part 0 1 1 : x"
        for line in ("", " ", "room", "room 1", "room 1 things", "room 1 things 1 ", " room 1 things 1", "room  1 things 1",
                     "room 1 things  1", "room 1 things 1 1", "room 0 things 1", "room 8193 things 1", "room 1 things 0",
                     "room 1 things 65", "room 01 things 1", "room 1 things 01", "room 00 things 1", "room -1 things 1",
                     "room +1 things 1", "room 1.0 things 1", "room a things 1", "room 1 things a", "Room 1 things 1",
                     "room 1 thing 1", "rooms 1 things 1", "things 1 room 1", "room 1, things 1", "room 1 things 1 :",
                     "room 10000000000 things 1", "room 1 things 10000000000", "room  things 1", part, "tags 0 : x",
                     "room 1 part 1", "1 room things 1", "room\t1 things 1"):
            self.refused(NoLaying, {"line": 0}, ONE, line, part)
            self.refused(NoLaying, {"line": 0}, ONE, line)
        self.refused(NoLaying, {"line": 0}, ONE, "", "room 1 things 1", part)
        self.refused(NoLaying, {"line": 0}, ONE, part, "room 1 things 1")

    def test_the_least_and_the_widest_room(self):
        laying = self.read(ONE, "room 1 things 1", "part 0 1 1 : x")
        self.assertEqual((laying.room, laying.things, laying.place("x", 0)), (1, 1, (0, 0, 8)))
        laying = self.read(ONE, "room 8192 things 64", "part 8128 1 1 : x")
        self.assertEqual((laying.room, laying.things, laying.place("x", 63)), (8192, 64, (8191, 0, 8)))
        laying = self.read(ONE, "room 8192 things 1", "part 8191 64 64 : x")
        self.assertEqual(laying.place("x", 0), (8191, 0, 8))

    def test_bounds_of_a_part(self):
        for base, block, pad in ((0, 1, 1), (8191, 64, 64), (8191, 1, 64), (0, 64, 1), (0, 63, 63)):
            part = self.read(ONE, "room 8192 things 1", "part %d %d %d : x" % (base, block, pad)).parts[0]
            self.assertEqual((part.base, part.block, part.pad), (base, block, pad))
        for base in (0, 8191):
            lines = ["room 8192 things 1", "tags %d : p.tag" % base, "part 1 1 1 : p n m"]
            self.assertEqual(self.read(TAGGED, *lines).parts[0].base, base)

    def test_parts_that_have_not_their_form(self):
        for line in (
            "", " ", "part", "part 0 1 1", "part 0 1 1 :", "part 0 1 1 : ", "part 0 1 1 :  x", "part 0 1 1 : x ",
            " part 0 1 1 : x", "part  0 1 1 : x", "part 0 1 1 x", "part 0 1 : x", "part 0 1 1 1 : x", "part 0 : x",
            "part 0 1 1: x", "part 0 1 1 :x", "part 0 1 1 ; x", "Part 0 1 1 : x", "parts 0 1 1 : x", "x", ": x", "0 1 1 : x",
            "part -1 1 1 : x", "part 8192 1 1 : x", "part 00 1 1 : x", "part 01 1 1 : x", "part a 1 1 : x",
            "part 0 0 1 : x", "part 0 65 1 : x", "part 0 01 1 : x", "part 0 a 1 : x", "part 0 -1 1 : x",
            "part 0 1 0 : x", "part 0 1 65 : x", "part 0 1 01 : x", "part 0 1 a : x", "part 0 1 -1 : x", "part 0 1 1 : : ",
            "tags", "tags 0", "tags 0 :", "tags 0 : ", "tags 0 :  p.tag", "tags 0 : p.tag ", " tags 0 : p.tag",
            "tags  0 : p.tag", "tags 0 p.tag", "tags 0 1 1 : p.tag", "tags : p.tag", "tag 0 : p.tag", "tags 8192 : p.tag",
            "tags -1 : p.tag", "tags 00 : p.tag", "tags 01 : p.tag", "tags a : p.tag", "tags 0 1 : p.tag", "tags 0: p.tag",
            "room 9 things 1", "part 0 1 1 : x\t ", "part 0 1 1 : x  n", "part 0 1 1 x : n", "tags 0 p.tag :", "tags 0 ; p.tag",
            "part 99999999999 1 1 : x", "tags 99999999999 : p.tag",
        ):
            self.refused(NoLaying, {"line": 1}, TAGGED, "room 9 things 1", line, "part 0 1 1 : p.tag p n m")
            self.refused(NoLaying, {"line": 2}, TAGGED, "room 9 things 1", "part 0 1 1 : p.tag p n m", line)

    def test_a_line_feed_too_many(self):
        self.refused(NoLaying, {"line": 2}, ONE, "room 1 things 1", "part 0 1 1 : x", "")
        self.refused(NoLaying, {"line": 1}, ONE, "room 1 things 1", "", "part 0 1 1 : x")

    def test_forty_parts_and_one_more(self):
        text = forty_parts()
        self.assertEqual(len(read_laying(FORTY, text).parts), 40)
        for line in ("part 0 1 1 : a.0.x", "part 0 1 1 : z", "tags 0 : z", "", "x"):
            refused_at(self, NoLaying, {"line": 41}, read_laying, FORTY, text + "\n" + line)
        lines = text.split("\n")
        self.refused(NoLaying, {"line": 41}, FORTY, *lines, "", "")
        self.refused(UnknownUnit, {"line": 40, "unit": "z"}, FORTY, *lines[:40], "part 0 1 1 : z", "part 0 1 1 : z")

    def test_the_text_is_the_very_one(self):
        for seed in range(40):
            shapes = read_shapes(some_text(seed))
            text = some_laying(shapes.main(), random.Random(seed), 2)
            self.assertEqual(read_laying(shapes, text).text(), text)


class Units(Case):

    def test_unknown_ones(self):
        for unit in ("what.line", "what.line.from.x", "rows", "rows.3", "rows.00", "dots", "dots.0", "dot", "dots.0.z", "tag",
                     "what.tag.x", "N", "n.", ".", ":", "part", "0", "x", "n,", "what.circ.r", "rows.i"):
            line = "part 0 1 1 : n %s rows.0 z" % unit
            self.refused(UnknownUnit, {"line": 1, "unit": unit}, FIGURES, "room 9 things 1", line)

    def test_in_tags_no_path_of_a_tag(self):
        for unit in ("what", "n", "rows.0", "rows", "what.line", "tag", "what.tag.tag", "z", ":"):
            self.refused(UnknownUnit, {"line": 1, "unit": unit}, FIGURES, "room 9 things 1", "tags 0 : what.tag %s z" % unit)

    def test_tags_of_inner_picks_are_no_units(self):
        shapes = read_shapes("shape a\nx num 1\nshape b\ny num 1\nshape c\np pick a b\nshape d\nq pick c a")
        for line in ("tags 0 : q.c.p.tag", "part 0 1 1 : q.c.p.tag"):
            self.refused(UnknownUnit, {"line": 1, "unit": "q.c.p.tag"}, shapes, "room 9 things 1", line)

    def test_units_of_shapes_that_are_not_the_main_one(self):
        self.refused(UnknownUnit, {"line": 1, "unit": "x"}, FIGURES, "room 9 things 1", "part 0 1 1 : x y")

    def test_laid_twice(self):
        self.refused(LaidTwice, {"line": 1, "unit": "x"}, PAIR, "room 9 things 1", "part 0 1 1 : x x y")
        self.refused(LaidTwice, {"line": 1, "unit": "y"}, PAIR, "room 9 things 1", "part 0 1 1 : x y y x")
        self.refused(LaidTwice, {"line": 2, "unit": "x"}, PAIR, "room 9 things 1", "part 0 1 1 : x", "part 3 1 1 : y x")
        self.refused(LaidTwice, {"line": 3, "unit": "x"}, PAIR, "room 9 things 1", "part 0 1 1 : x", "part 3 1 1 : y",
                     "part 0 1 1 : x y")
        self.refused(LaidTwice, {"line": 2, "unit": "p.tag"}, TAGGED, "room 9 things 1", "tags 0 : p.tag",
                     "part 3 1 1 : p p.tag n m")
        self.refused(LaidTwice, {"line": 2, "unit": "p.tag"}, TAGGED, "room 9 things 1", "part 3 1 1 : p p.tag n m",
                     "tags 0 : p.tag")
        self.refused(LaidTwice, {"line": 1, "unit": "p.tag"}, TAGGED, "room 9 things 1", "tags 0 : p.tag p.tag")

    def test_lacking(self):
        units = [path for path, width, sort in FIGURES.main().units()]
        for lacks in units:
            laid = [unit for unit in units if unit != lacks]
            line = "part 0 1 1 : " + " ".join(reversed(laid))
            self.refused(Lacking, {"unit": lacks}, FIGURES, "room 1 things 1", line)
        self.refused(Lacking, {"unit": "what.tag"}, FIGURES, "room 1 things 1")
        self.refused(Lacking, {"unit": "what"}, FIGURES, "room 1 things 1", "tags 0 : what.tag")
        self.refused(Lacking, {"unit": "rows.0"}, FIGURES, "room 1 things 1", "part 0 1 1 : dot.y what what.tag rows.1")
        self.refused(Lacking, {"unit": "x"}, ONE, "room 1 things 1")


class Order(Case):

    def test_in_one_line(self):
        self.refused(NoLaying, {"line": 1}, PAIR, "room 9 things 1", "part 0 0 1 : z x x")
        self.refused(UnknownUnit, {"line": 1, "unit": "z"}, PAIR, "room 9 things 1", "part 0 1 1 : x x z")
        self.refused(UnknownUnit, {"line": 2, "unit": "z"}, PAIR, "room 9 things 1", "part 0 1 1 : x", "part 0 1 1 : x z w")
        self.refused(UnknownUnit, {"line": 2, "unit": "n"}, TAGGED, "room 9 things 1", "tags 0 : p.tag", "tags 0 : p.tag n")

    def test_in_two_lines(self):
        self.refused(NoLaying, {"line": 0}, PAIR, "room 0 things 1", "part 0 1 1 : z")
        self.refused(UnknownUnit, {"line": 1, "unit": "z"}, PAIR, "room 9 things 1", "part 0 1 1 : z", "x")
        self.refused(LaidTwice, {"line": 1, "unit": "x"}, PAIR, "room 9 things 1", "part 0 1 1 : x x", "part 0 1 1 : z")
        self.refused(LaidTwice, {"line": 2, "unit": "x"}, PAIR, "room 9 things 1", "part 0 1 1 : x", "part 0 1 1 : x", "")

    def test_lines_ahead_of_what_lacks_and_this_ahead_of_places(self):
        self.refused(NoLaying, {"line": 2}, PAIR, "room 9 things 1", "part 0 1 1 : x", "y")
        self.refused(Lacking, {"unit": "y"}, PAIR, "room 1 things 1", "part 0 1 1 : x")
        self.refused(Lacking, {"unit": "x"}, PAIR, "room 1 things 1", "part 8000 1 1 : y")


class Ends(Case):

    def test_at_the_last_cell_and_just_past_it(self):
        for cells, base in ((3, 0), (8, 5), (8192, 8189)):
            self.read(PAIR, "room %d things 1" % cells, "part %d 1 1 : x y" % base)
            self.refused(Past, {"unit": "y", "thing": 0, "cell": cells}, PAIR,
                         "room %d things 1" % cells, "part %d 1 1 : x y" % (base + 1))
        self.refused(Past, {"unit": "x", "thing": 0, "cell": 1}, PAIR, "room 1 things 1", "part 0 1 1 : x y")

    def test_the_least_cell_that_is_past(self):
        wide = read_shapes("shape a\n" + "\n".join("%s num 4" % name for name in "bc"))
        for base, cell in ((7, 10), (8, 10), (9, 10), (10, 10), (11, 11), (8191, 8191)):
            self.refused(Past, {"unit": "c", "thing": 0, "cell": cell}, wide,
                         "room 10 things 1", "part 0 1 1 : b", "part %d 1 1 : c" % base)

    def test_of_later_things(self):
        self.read(PAIR, "room 9 things 3", "part 0 1 1 : x y")
        self.refused(Past, {"unit": "y", "thing": 2, "cell": 8}, PAIR, "room 8 things 3", "part 0 1 1 : x y")
        self.refused(Past, {"unit": "x", "thing": 2, "cell": 7}, PAIR, "room 7 things 3", "part 0 1 1 : x y")
        # By fields the last thing of the first field lies ahead of the first thing of the second one.
        self.refused(Past, {"unit": "y", "thing": 1, "cell": 7}, PAIR, "room 7 things 3", "part 0 3 1 : x y")
        self.refused(Past, {"unit": "y", "thing": 0, "cell": 6}, PAIR, "room 6 things 3", "part 0 3 1 : x y")
        self.refused(Past, {"unit": "y", "thing": 0, "cell": 6}, PAIR, "room 5 things 3", "part 0 3 1 : x y")
        self.refused(Past, {"unit": "x", "thing": 1, "cell": 3}, PAIR, "room 3 things 3", "part 2 3 1 : y", "part 0 1 3 : x")

    def test_of_packed_tags(self):
        lines = ["part 0 1 1 : p n m", "tags 20 : p.tag"]
        self.read(TAGGED, "room 21 things 4", *lines)
        self.refused(Past, {"unit": "p.tag", "thing": 0, "cell": 20}, TAGGED, "room 20 things 4", *lines)
        lines = ["part 0 1 1 : p n m", "tags 25 : p.tag"]
        self.read(TAGGED, "room 27 things 5", *lines)
        self.refused(Past, {"unit": "p.tag", "thing": 4, "cell": 26}, TAGGED, "room 26 things 5", *lines)

    def test_blocks_may_reach_past_the_room(self):
        self.read(PAIR, "room 3 things 1", "part 0 1 64 : x y")
        self.read(PAIR, "room 6 things 2", "part 0 2 64 : x y")
        self.read(PAIR, "room 65 things 1", "part 0 64 1 : y", "part 1 1 1 : x")


class Meeting(Case):

    def test_two_units_of_one_thing(self):
        self.refused(Meets, {"unit": "y", "thing": 0, "second": "x", "another": 0}, PAIR,
                     "room 9 things 1", "part 0 1 1 : x", "part 1 1 1 : y")
        self.refused(Meets, {"unit": "y", "thing": 0, "second": "x", "another": 0}, PAIR,
                     "room 9 things 1", "part 0 1 1 : y", "part 0 1 1 : x")
        self.read(PAIR, "room 9 things 1", "part 0 1 1 : x", "part 2 1 1 : y")
        self.read(PAIR, "room 9 things 1", "part 1 1 1 : x", "part 0 1 1 : y")

    def test_two_things(self):
        self.refused(Meets, {"unit": "x", "thing": 1, "second": "y", "another": 0}, PAIR,
                     "room 9 things 2", "part 0 1 1 : x", "part 3 1 1 : y")
        self.refused(Meets, {"unit": "y", "thing": 1, "second": "x", "another": 0}, PAIR,
                     "room 9 things 2", "part 5 2 1 : x", "part 4 2 1 : y")

    def test_the_first_one_ahead_is_told(self):
        # The place of x of thing 1 meets y of thing 0, or z of it, or both.
        shapes = read_shapes("shape a\nx num 4\ny num 1\nz num 1")
        for base, other, met in ((6, 5, "y"), (60, 6, "z"), (4, 7, "y")):
            self.refused(Meets, {"unit": "x", "thing": 1, "second": met, "another": 0}, shapes, "room 99 things 2",
                         "part 0 1 1 : x", "part %d 1 64 : y" % base, "part %d 1 64 : z" % other)
        shapes = read_shapes("shape a\ny num 1\nz num 1\nx num 4")
        self.refused(Meets, {"unit": "x", "thing": 0, "second": "y", "another": 0}, shapes, "room 99 things 1",
                     "part 10 1 1 : z y", "part 9 1 1 : x")
        shapes = read_shapes("shape a\nx num 4\ny num 1")
        self.refused(Meets, {"unit": "x", "thing": 2, "second": "y", "another": 0}, shapes, "room 99 things 3",
                     "part 0 1 10 : x", "part 23 64 1 : y")

    def test_past_is_told_ahead_for_one_place(self):
        self.refused(Past, {"unit": "y", "thing": 0, "cell": 3}, read_shapes("shape a\nx num 3\ny num 2"),
                     "room 3 things 1", "part 0 1 1 : x", "part 2 1 1 : y")

    def test_the_first_place_that_is_wrong_goes(self):
        self.refused(Meets, {"unit": "y", "thing": 0, "second": "x", "another": 0}, PAIR,
                     "room 3 things 2", "part 0 1 1 : x", "part 0 1 1 : y")
        self.refused(Past, {"unit": "x", "thing": 1, "cell": 3}, PAIR,
                     "room 3 things 2", "part 0 1 3 : x", "part 2 1 64 : y")
        self.refused(Past, {"unit": "x", "thing": 0, "cell": 5}, PAIR, "room 5 things 2", "part 4 1 1 : x", "part 4 1 1 : y")

    def test_packed_tags(self):
        whole = "part 4 1 1 : p q"
        self.read(TWO_TAGS, "room 9 things 2", "tags 0 : p.tag q.tag", whole)
        self.read(TWO_TAGS, "room 9 things 2", "tags 0 : q.tag", "tags 1 : p.tag", whole)
        # Each of two parts of tags begins at the lowest bits of its cell.
        self.refused(Meets, {"unit": "q.tag", "thing": 0, "second": "p.tag", "another": 0}, TWO_TAGS,
                     "room 9 things 1", "tags 0 : p.tag", "tags 0 : q.tag", whole)
        self.refused(Meets, {"unit": "p.tag", "thing": 4, "second": "q.tag", "another": 0}, TWO_TAGS,
                     "room 99 things 5", "tags 0 : p.tag", "tags 1 : q.tag", whole)
        self.read(TWO_TAGS, "room 99 things 4", "tags 0 : p.tag", "tags 1 : q.tag", whole)

    def test_a_packed_tag_and_whole_cells(self):
        self.refused(Meets, {"unit": "p", "thing": 0, "second": "p.tag", "another": 0}, TWO_TAGS,
                     "room 9 things 1", "tags 4 : p.tag q.tag", "part 4 1 1 : p q")
        self.refused(Meets, {"unit": "p.tag", "thing": 2, "second": "p", "another": 0}, TWO_TAGS,
                     "room 99 things 3", "tags 0 : p.tag q.tag", "part 1 1 1 : p q")
        self.read(TWO_TAGS, "room 99 things 2", "tags 0 : p.tag q.tag", "part 1 1 1 : p q")

    def test_blocks_over_those_of_another_part(self):
        # Only places meet: y lies in the cells that pad the blocks of x.
        self.read(PAIR, "room 15 things 4", "part 0 1 4 : x", "part 2 1 4 : y")
        self.read(PAIR, "room 12 things 3", "part 0 4 1 : x", "part 6 1 1 : y")
        self.refused(Meets, {"unit": "x", "thing": 3, "second": "y", "another": 0}, PAIR,
                     "room 12 things 4", "part 0 4 1 : x", "part 6 1 1 : y")


class Drawn(Case):

    def test_places_that_may_meet_or_reach_past(self):
        seen = {}
        for seed in range(400):
            dice = random.Random(seed)
            shapes = read_shapes(some_text(seed))
            things = dice.choice([1, 2, 3, 5])
            head, *lines = some_laying(shapes.main(), dice, things).split("\n")
            lines = [shifted(line, dice) for line in lines]
            text = "\n".join(["room %d things %d" % (dice.choice([1, 20, 60, 200, 8192]), things)] + lines)
            wanted = first_wrong(shapes.main().units(), text)
            if wanted is None:
                read_laying(shapes, text)
            else:
                error = refusal(self, wanted[0], read_laying, shapes, text)
                self.assertEqual(vars(error), wanted[1], text)
            name = wanted and wanted[0].__name__
            seen[name] = seen.get(name, 0) + 1
        self.assertEqual({name: many > 20 for name, many in seen.items()}, {None: True, "Past": True, "Meets": True})


def shifted(line, dice):
    """The part's line with another base, or the same one."""
    words = line.split(" ")
    words[1] = str(max(0, int(words[1]) + dice.choice([0, 0, 0, -1, 1, -3])))
    return " ".join(words)


def first_wrong(units, text):
    """The class and fields with which the first wrong place of this text is refused, None where there is none."""
    room = int(text.split(" ")[1])
    ahead = []
    for (unit, thing), place in laid_at(units, text).items():
        past = [bit // 8 for bit in sorted(bits_of(place)) if bit // 8 >= room]
        if past:
            return Past, {"unit": unit, "thing": thing, "cell": past[0]}
        for second, another, bits in ahead:
            if bits & bits_of(place):
                return Meets, {"unit": unit, "thing": thing, "second": second, "another": another}
        ahead.append((unit, thing, bits_of(place)))
    return None


if __name__ == "__main__":
    unittest.main()
