"""Texts of shapes that are read, and those that are refused."""

import unittest

from roomslaid.errors import NamedTwice, NoShapes, TooMuch, UnknownShape
from roomslaid.shapes import Shapes
from roomslaid.shapetext import read_shapes
from tests.helper import DRAWING, ODD, PICKS, refused_at, some_text

OWN = ("shape num row pick tag room things part tags put take many look which store choose copy each span "
       "if else end out").split(" ")
AHEAD = "shape a\nx num 1\nshape b\nx num 1\nshape c\nx num 1\nshape d\nx num 1\nshape e\nx num 1\n"
EIGHT = "\n".join("shape %s\nx num 1" % name for name in "abcdefgh")


class Read(unittest.TestCase):

    def same(self, text):
        shapes = read_shapes(text)
        self.assertIsInstance(shapes, Shapes)
        self.assertEqual(shapes.text(), text)
        return shapes

    def test_texts_come_out_as_they_were(self):
        for text in [DRAWING, PICKS, EIGHT] + [some_text(seed) for seed in range(200)]:
            self.same(text)

    def test_each_width_and_count(self):
        for width in range(1, 5):
            self.assertEqual(self.same("shape a\nx num %d" % width).main().size(), width)
            for count in range(1, 7):
                shape = self.same("shape a\nx row %d num %d" % (count, width)).main()
                self.assertEqual(shape.size(), count * width)
        for count in range(1, 7):
            self.assertEqual(self.same(AHEAD + "shape f\nx row %d a" % count).main().size(), count)

    def test_picks_of_two_three_and_four(self):
        for names in ("a b", "b a", "a b c", "d c b", "a b c d", "e d b a"):
            shape = self.same(AHEAD + "shape f\nx pick " + names).main()
            self.assertEqual([one.name for one in shape.fields[0][1].shapes], names.split(" "))

    def test_names_beside_own_words(self):
        for word in OWN:
            for name in {word[:-1], word + "s", "a" + word} - set(OWN):
                if 1 <= len(name) <= 6:
                    self.same("shape %s\n%s num 1" % (name, name))

    def test_fields_called_like_shapes_and_like_fields_of_other_shapes(self):
        shapes = self.same("shape a\na num 1\nb num 2\nshape b\na a\nb a\nshape c\nb pick b a\na row 2 b\nc num 1")
        self.assertEqual(shapes.main().size(), 1 + 6 + 12 + 1)

    def test_names_of_one_and_six_letters(self):
        self.same("shape z\nq num 1\nshape abcdef\nqwerty z\nz row 6 z")

    def test_two_that_are_read_have_nothing_in_common(self):
        one, other = read_shapes(DRAWING), read_shapes(DRAWING)
        self.assertIsNot(one.main(), other.main())
        self.assertEqual(one.text(), other.text())


class NoForm(unittest.TestCase):

    def no(self, line, text):
        refused_at(self, NoShapes, {"line": line}, read_shapes, text)

    def test_what_is_no_text(self):
        for thing in ODD + [[DRAWING], (DRAWING,), {DRAWING: 1}, DRAWING.split("\n"), read_shapes(DRAWING)]:
            self.no(0, thing)

    def test_empty_lines(self):
        self.no(0, "")
        self.no(0, "\n")
        self.no(0, "\n" + DRAWING)
        self.no(1, "shape a\n")
        self.no(1, "shape a\n\nx num 1")
        self.no(2, "shape a\nx num 1\n")
        self.no(2, "shape a\nx num 1\n\n")
        self.no(len(DRAWING.split("\n")), DRAWING + "\n")

    def test_shape_lines(self):
        for row in ("shape", "shape ", "shape a b", " shape a", "shape a ", "shape  a", "Shape a", "shape A", "shapes a",
                    "shape 1", "shape abcdefg", "shape a1", "shape a.b", "shape num 1", "a"):
            self.no(0, row + "\nx num 1")
        for word in OWN:
            self.no(0, "shape %s\nx num 1" % word)

    def test_field_lines(self):
        for row in (
            "x", "x ", " x num 1", "x num 1 ", "x  num 1", "x num  1", "x num", "x num ", "x num 0", "x num 5", "x num 01",
            "x num 1 1", "x num a", "x num -1", "x num 10", "x Num 1", "x num 1 num", "X num 1", "x1 num 1", "abcdefg num 1",
            "xx num 1,", "x.y num 1", "x a ", "x a b", "x a num", "x a 1", "x 1", "x tag", "x shape a", "x shape", "x A",
            "x row", "x row 2", "x row num 1", "x row 2 num", "x row 0 num 1", "x row 7 num 1", "x row 02 num 1",
            "x row 2 num 0", "x row 2 num 5", "x row 2 num 1 1", "x row 2 a b", "x row a num 1", "x row 2 row 2 num 1",
            "x row 2 pick a b", "x row 0 a", "x row 7 a", "x row 2 ", "x row  2 a", "x row 2 tag", "x row 2 1", "x row -2 a",
            "x row 10 num 1", "x row a a",
            "x pick", "x pick a", "x pick a b c d e", "x pick a  b", "x pick a b ", "x pick a num", "x pick num 1",
            "x pick a 1", "x pick a tag", "x pick a B", "x pick row 2 a", "x pick pick a b", "x pick a pick b c",
            "x pick num a", "x pick tag b", "pick a b", "num 1", "row 2 a", "x\tnum 1",
        ):
            self.no(11, AHEAD + "shape f\n" + row)
        for word in OWN:
            self.no(11, AHEAD + "shape f\n%s num 1" % word)
            self.no(11, AHEAD + "shape f\nx %s" % word)
            self.no(11, AHEAD + "shape f\nx row 2 %s" % word)
            self.no(11, AHEAD + "shape f\nx pick %s a" % word)
            self.no(11, AHEAD + "shape f\nx pick a b %s" % word)

    def test_a_field_ahead_of_any_shape(self):
        self.no(0, "x num 1")
        self.no(0, "x num 1\nshape a\nx num 1")
        self.no(0, "x a")
        self.no(0, "x pick a a")

    def test_a_shape_right_behind_a_shape(self):
        self.no(1, "shape a\nshape b\nx num 1")
        self.no(1, "shape a\nshape a\nx num 1")
        self.no(3, "shape a\nx num 1\nshape b\nshape c")
        self.no(3, "shape a\nx num 1\nshape b\nshape a")

    def test_a_last_shape_without_a_field(self):
        self.no(1, "shape a")
        self.no(3, "shape a\nx num 1\nshape b")


class Twice(unittest.TestCase):

    def twice(self, line, name, text):
        refused_at(self, NamedTwice, {"line": line, "name": name}, read_shapes, text)

    def test_a_shape(self):
        self.twice(2, "a", "shape a\nx num 1\nshape a\nx num 1")
        self.twice(10, "c", AHEAD + "shape c")
        self.twice(10, "a", AHEAD + "shape a\nx num 1")
        self.twice(10, "e", AHEAD + "shape e\nx num 1")

    def test_a_field(self):
        self.twice(2, "x", "shape a\nx num 1\nx num 1")
        self.twice(3, "x", "shape a\nx num 1\ny num 1\nx row 2 num 1")
        self.twice(13, "y", AHEAD + "shape f\nx num 1\ny num 1\ny pick a b")

    def test_a_name_in_a_pick(self):
        for names, name in (("a a", "a"), ("a b a", "a"), ("a b b", "b"), ("a b b a", "b"), ("a b a b", "a"),
                            ("a b c c", "c"), ("a a b b", "a"), ("a b c a", "a")):
            self.twice(11, name, AHEAD + "shape f\nx pick " + names)

    def test_a_field_goes_ahead_of_a_name_in_its_pick(self):
        self.twice(12, "x", AHEAD + "shape f\nx num 1\nx pick a a")

    def test_twice_goes_ahead_of_unknown(self):
        self.twice(12, "x", AHEAD + "shape f\nx num 1\nx g")
        self.twice(12, "x", AHEAD + "shape f\nx num 1\nx pick g h")
        self.twice(11, "g", AHEAD + "shape f\nx pick g g")
        self.twice(11, "a", AHEAD + "shape f\nx pick g a a")
        self.twice(11, "f", AHEAD + "shape f\nx pick f a f")

    def test_twice_goes_ahead_of_too_much(self):
        for name in "adh":
            self.twice(16, name, EIGHT + "\nshape " + name)
        seven = AHEAD + "shape f\n" + "\n".join(field + " num 1" for field in "uvwxyz")
        self.twice(17, "u", seven + "\nu num 1")
        self.twice(17, "z", seven + "\nz row 6 num 4")
        self.twice(17, "a", seven + "\nt pick a b a")
        self.twice(11, "big", "\n".join([
            "shape big", "x row 5 num 4", "y row 5 num 4", "shape a", "x num 1", "shape b", "x num 1",
            "shape c", "x row 6 num 4", "y row 6 num 4", "z row 3 num 4", "w pick big a big"]))


class Unknown(unittest.TestCase):

    def unknown(self, line, name, text):
        refused_at(self, UnknownShape, {"line": line, "name": name}, read_shapes, text)

    def test_in_each_form(self):
        self.unknown(11, "g", AHEAD + "shape f\nx g")
        self.unknown(11, "g", AHEAD + "shape f\nx row 2 g")
        self.unknown(11, "g", AHEAD + "shape f\nx pick g a")
        self.unknown(11, "g", AHEAD + "shape f\nx pick a g")
        self.unknown(11, "g", AHEAD + "shape f\nx pick a b c g")

    def test_the_first_from_the_left(self):
        self.unknown(11, "g", AHEAD + "shape f\nx pick g h")
        self.unknown(11, "h", AHEAD + "shape f\nx pick a h g")
        self.unknown(11, "h", AHEAD + "shape f\nx pick h a g b")

    def test_the_shape_that_is_being_told_is_none_yet(self):
        self.unknown(1, "a", "shape a\nx a")
        self.unknown(2, "a", "shape a\nx num 1\ny a")
        self.unknown(2, "a", "shape a\nx num 1\ny row 1 a")
        self.unknown(12, "f", AHEAD + "shape f\nx num 1\ny pick a f")

    def test_a_shape_told_behind_is_none_yet(self):
        self.unknown(1, "b", "shape a\nx b\nshape b\nx num 1")

    def test_a_fields_name_is_no_shape(self):
        self.unknown(2, "x", "shape a\nx num 1\ny x")

    def test_unknown_goes_ahead_of_too_much(self):
        seven = AHEAD + "shape f\n" + "\n".join(field + " num 1" for field in "uvwxyz")
        self.unknown(17, "g", seven + "\nt g")
        self.unknown(17, "f", seven + "\nt pick a f")


class Bounds(unittest.TestCase):

    def much(self, line, text):
        refused_at(self, TooMuch, {"line": line}, read_shapes, text)

    def fits(self, text):
        self.assertEqual(read_shapes(text).text(), text)
        return read_shapes(text)

    def test_eight_shapes_and_a_ninth(self):
        self.fits(EIGHT)
        self.much(16, EIGHT + "\nshape i")
        self.much(16, EIGHT + "\nshape i\nx num 1")
        refused_at(self, NoShapes, {"line": 16}, read_shapes, EIGHT + "\nshape i j")
        refused_at(self, NoShapes, {"line": 15}, read_shapes, EIGHT[:-len("\nx num 1")] + "\nshape i")

    def test_six_fields_and_a_seventh(self):
        six = "shape a\n" + "\n".join(field + " num 1" for field in "uvwxyz")
        self.fits(six)
        self.much(7, six + "\nt num 1")
        self.much(7, six + "\nt row 6 num 4")
        self.fits(six + "\nshape b\n" + "\n".join(field + " a" for field in "uvwxyz"))
        self.much(14, six + "\nshape b\n" + "\n".join(field + " a" for field in "uvwxyzt"))

    def test_64_cells_and_65(self):
        full = "shape a\nx row 4 num 4\ny row 4 num 4\nz row 4 num 4\nw row 4 num 4"
        self.assertEqual(self.fits(full).main().size(), 64)
        self.much(5, full + "\nv num 1")
        self.much(4, full.replace("w row 4 num 4", "w row 5 num 4"))
        self.much(6, full + "\nshape b\nx row 2 a")
        self.much(7, full + "\nshape b\nx num 1\ny a")
        self.assertEqual(self.fits(full + "\nshape b\nx a").main().size(), 64)

    def test_a_pick_has_its_tag_beside_the_greatest_shape(self):
        sixty = "shape s\nw num 1\nshape a\nx row 5 num 4\ny row 5 num 4\nz row 5 num 4"
        for last, much in (("num 2", False), ("num 3", False), ("num 4", True)):
            for names in ("a s", "s a"):
                text = sixty + "\nw %s\nshape b\nx pick %s" % (last, names)
                self.much(8, text) if much else self.fits(text)
        self.assertEqual(self.fits(sixty + "\nw num 3\nshape b\nx pick a s").main().size(), 64)

    def test_40_units_and_41(self):
        text = "shape a\nx num 1\ny num 1\nshape b\nx row 6 a\ny row 6 a\nz row 6 a\nw row 2 a"
        self.assertEqual(len(self.fits(text).main().units()), 40)
        self.much(8, text + "\nv num 1")
        self.much(7, text.replace("w row 2 a", "w row 3 a"))
        self.much(10, text + "\nshape c\nx num 1\ny b")
        self.fits(text + "\nshape c\nx b")

    def test_a_pick_has_two_units_whatever_is_in_it(self):
        text = ("shape a\nx num 1\ny num 1\nshape b\nx row 6 a\ny row 6 a\nz row 6 a\nshape c\nx row 6 num 1\n"
                "y row 6 num 1\nshape d\nx pick b c\ny row 6 num 1\nz row 6 num 1")
        self.assertEqual(len(self.fits(text).main().units()), 14)
        picks = ("shape a\nx num 1\nshape b\nx num 1\nshape c\nx pick a b\ny pick a b\nz row 3 num 1\nshape d\n"
                 "x row 5 c\n")
        self.assertEqual(len(self.fits(picks + "y row 5 num 1").main().units()), 40)
        self.much(10, picks + "y row 6 num 1")

    def test_a_depth_of_four_and_of_five(self):
        four = "shape a\nx num 1\nshape z\ny num 1\nshape b\nx a\nshape c\nx row 1 b\nshape d\nx pick z c"
        self.assertEqual(self.fits(four).main().depth(), 4)
        for row in ("x d", "x row 1 d", "x pick d a", "x pick a d", "x pick a z d"):
            self.much(11, four + "\nshape e\n" + row)
            self.much(12, four + "\nshape e\nw num 1\n" + row)
        self.fits(four + "\nshape e\nx c")

    def test_shapes_that_are_not_the_main_one_are_bounded_too(self):
        self.much(7, "shape a\n" + "\n".join(field + " num 1" for field in "uvwxyzt") + "\nshape b\nx num 1")
        self.much(5, "shape a\nx row 4 num 4\ny row 4 num 4\nz row 4 num 4\nw row 4 num 4\nv num 1\nshape b\nx num 1")


class Order(unittest.TestCase):

    def test_the_first_line_goes(self):
        refused_at(self, TooMuch, {"line": 7}, read_shapes,
                   "shape a\n" + "\n".join(field + " num 1" for field in "uvwxyzt") + "\nx x x")
        refused_at(self, UnknownShape, {"line": 1, "name": "b"}, read_shapes, "shape a\nx b\nnothing")
        refused_at(self, NamedTwice, {"line": 2, "name": "x"}, read_shapes, "shape a\nx num 1\nx num 1\nx b\n")
        refused_at(self, NoShapes, {"line": 1}, read_shapes, "shape a\nx num 9\nx num 1\nx num 1")
        refused_at(self, UnknownShape, {"line": 1, "name": "b"}, read_shapes, "shape a\nx b\nx b")
        refused_at(self, NamedTwice, {"line": 2, "name": "a"}, read_shapes, "shape a\nx num 1\nshape a")

    def test_no_form_goes_ahead_of_all_others_in_a_line(self):
        refused_at(self, NoShapes, {"line": 11}, read_shapes, AHEAD + "shape f\nx pick a a a a a")
        refused_at(self, NoShapes, {"line": 12}, read_shapes, AHEAD + "shape f\nx num 1\nx num 5")
        refused_at(self, NoShapes, {"line": 11}, read_shapes, AHEAD + "shape f\nx pick g")
        seven = "shape a\n" + "\n".join(field + " num 1" for field in "uvwxyz")
        refused_at(self, NoShapes, {"line": 7}, read_shapes, seven + "\nu num 5")

    def test_a_refusal_leaves_what_is_read_next_alone(self):
        for text in ("shape a\nx b", "shape a", "x"):
            self.assertRaises(ValueError, read_shapes, text)
            self.assertEqual(read_shapes(DRAWING).text(), DRAWING)


if __name__ == "__main__":
    unittest.main()
