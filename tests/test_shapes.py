"""Kinds, shapes, their units and leaves, and the kinds to which paths lead."""

import unittest

from roomslaid.errors import NoPath
from roomslaid.shapes import Kind, Many, Nested, Num, Pick, Shape, Shapes
from roomslaid.shapetext import read_shapes
from tests.helper import DRAWING, ODD, PICKS, refused, some_text

SEEDS = range(120)


def dot():
    return Shape("dot", [("x", Num(2)), ("y", Num(1))])


def circ():
    return Shape("circ", (("mid", Nested(dot())), ("r", Num(4))))


def told(kind):
    """A kind or shape as plain things, so that two that are made alike are equal."""
    if isinstance(kind, Shape):
        return ("of", kind.name, tuple((name, told(inner)) for name, inner in kind.fields))
    parts = {"num": lambda: kind.width, "shape": lambda: told(kind.shape),
             "row": lambda: (kind.count, told(kind.kind)),
             "pick": lambda: tuple(told(shape) for shape in kind.shapes)}
    return (kind.word(), kind.text(), kind.size(), kind.depth(), parts[kind.word()]())


class Kinds(unittest.TestCase):

    def test_they_stand_straight_under_kind(self):
        for kind in (Num, Nested, Many, Pick):
            self.assertEqual(kind.__bases__, (Kind,))

    def test_num(self):
        for width in (1, 2, 3, 4):
            kind = Num(width)
            self.assertEqual(kind.width, width)
            self.assertEqual((kind.word(), kind.text()), ("num", "num %d" % width))
            self.assertEqual((kind.size(), kind.depth()), (width, 0))

    def test_nested(self):
        shape = circ()
        kind = Nested(shape)
        self.assertIs(kind.shape, shape)
        self.assertEqual((kind.word(), kind.text()), ("shape", "circ"))
        self.assertEqual((kind.size(), kind.depth()), (7, 2))

    def test_row_of_nums(self):
        for count in (1, 6):
            inner = Num(3)
            kind = Many(count, inner)
            self.assertEqual(kind.count, count)
            self.assertIs(kind.kind, inner)
            self.assertEqual((kind.word(), kind.text()), ("row", "row %d num 3" % count))
            self.assertEqual((kind.size(), kind.depth()), (3 * count, 0))

    def test_row_of_shapes(self):
        kind = Many(2, Nested(circ()))
        self.assertEqual((kind.word(), kind.text()), ("row", "row 2 circ"))
        self.assertEqual((kind.size(), kind.depth()), (14, 2))

    def test_pick_of_a_list_or_a_tuple(self):
        shapes = [circ(), dot()]
        for handed in (list(shapes), tuple(shapes)):
            kind = Pick(handed)
            self.assertIs(type(kind.shapes), tuple)
            self.assertEqual(kind.shapes, tuple(shapes))
            self.assertEqual((kind.word(), kind.text()), ("pick", "pick circ dot"))
            self.assertEqual((kind.size(), kind.depth()), (8, 2))

    def test_the_greatest_of_a_picks_shapes_counts_wherever_it_stands(self):
        low, flat = Shape("low", [("x", Num(1))]), Shape("flat", [("x", Many(5, Num(2)))])
        for shapes in ([flat, circ()], [circ(), flat], [low, flat, circ()], [low, circ(), dot(), flat]):
            self.assertEqual((Pick(shapes).size(), Pick(shapes).depth()), (11, 2))

    def test_a_pick_keeps_a_copy_of_its_list(self):
        shapes = [dot(), circ()]
        kind = Pick(shapes)
        shapes.reverse()
        shapes.append(dot())
        self.assertEqual(kind.text(), "pick dot circ")


class ShapesByHand(unittest.TestCase):

    def test_fields_of_a_list_or_a_tuple(self):
        fields = [("x", Num(2)), ("y", Num(1))]
        for handed in (list(fields), tuple(fields)):
            shape = Shape("dot", handed)
            self.assertEqual(shape.name, "dot")
            self.assertIs(type(shape.fields), tuple)
            self.assertEqual(shape.fields, tuple(fields))
            self.assertTrue(all(type(field) is tuple for field in shape.fields))
            self.assertEqual((shape.size(), shape.depth()), (3, 1))

    def test_a_shape_keeps_a_copy_of_its_list(self):
        fields = [("x", Num(2))]
        shape = Shape("dot", fields)
        fields.append(("y", Num(1)))
        self.assertEqual([name for name, kind in shape.fields], ["x"])
        self.assertEqual(shape.units(), [("x", 2, "num")])

    def test_depth_is_one_more_than_the_greatest(self):
        self.assertEqual(circ().depth(), 2)
        self.assertEqual(Shape("a", [("x", Nested(circ())), ("y", Num(1)), ("z", Nested(dot()))]).depth(), 3)
        self.assertEqual(Shape("a", [("y", Num(1)), ("x", Many(2, Nested(circ())))]).depth(), 3)
        self.assertEqual(Shape("a", [("x", Pick([dot(), circ()]))]).depth(), 3)
        self.assertEqual(Shape("a", [("x", Many(6, Num(1)))]).depth(), 1)

    def test_shapes_of_a_list_or_a_tuple(self):
        parts = [dot(), circ()]
        for handed in (list(parts), tuple(parts)):
            shapes = Shapes(handed)
            self.assertIs(type(shapes.shapes), tuple)
            self.assertEqual(shapes.shapes, tuple(parts))
            self.assertIs(shapes.main(), parts[1])
            self.assertEqual(shapes.text(), "shape dot\nx num 2\ny num 1\nshape circ\nmid dot\nr num 4")

    def test_shapes_keep_a_copy_of_their_list(self):
        parts = [dot(), circ()]
        shapes = Shapes(parts)
        parts.pop()
        self.assertEqual(shapes.main().name, "circ")

    def test_by_hand_they_tell_what_they_tell_when_read(self):
        small, line = dot(), Shape("line", [("from", Nested(dot())), ("to", Nested(dot()))])
        whole = Shape("fig", [
            ("what", Pick([line, circ()])), ("rows", Many(3, Num(2))), ("dots", Many(2, Nested(small))),
            ("n", Num(3)), ("dot", Nested(small)),
        ])
        made, read = Shapes([small, line, circ(), whole]), read_shapes(DRAWING)
        self.assertEqual(made.text(), DRAWING)
        for one, other in zip(made.shapes, read.shapes):
            self.assertEqual(told(one), told(other))
            self.assertEqual(one.units(), other.units())
            self.assertEqual(one.leaves(), other.leaves())


class ShapesOfAText(unittest.TestCase):

    def test_they_stand_in_their_order(self):
        shapes = read_shapes(DRAWING)
        self.assertEqual([shape.name for shape in shapes.shapes], ["dot", "line", "circ", "fig"])
        self.assertIs(shapes.main(), shapes.shapes[3])
        self.assertEqual(read_shapes("shape a\nx num 1").main().name, "a")

    def test_shape_of_a_name(self):
        shapes = read_shapes(DRAWING)
        for shape in shapes.shapes:
            self.assertIs(shapes.shape_of(shape.name), shape)

    def test_what_names_no_shape_is_refused(self):
        shapes = read_shapes(DRAWING)
        for thing in ODD + ["x", "what", "", "dot ", "Dot", "do", "dots", ["dot"], ("dot",), {"dot": 1}]:
            refused(self, NoPath, {"path": thing}, shapes.shape_of, thing)
        refused(self, NoPath, {"path": shapes.main()}, shapes.shape_of, shapes.main())

    def test_sizes_and_depths(self):
        self.assertEqual([shape.size() for shape in read_shapes(DRAWING).shapes], [3, 6, 7, 26])
        self.assertEqual([shape.depth() for shape in read_shapes(DRAWING).shapes], [1, 2, 2, 3])
        self.assertEqual([shape.size() for shape in read_shapes(PICKS).shapes], [1, 2, 4, 8, 17])
        self.assertEqual([shape.depth() for shape in read_shapes(PICKS).shapes], [1, 1, 2, 3, 4])

    def test_fields(self):
        fields = read_shapes(DRAWING).main().fields
        self.assertEqual([name for name, kind in fields], ["what", "rows", "dots", "n", "dot"])
        self.assertEqual([kind.text() for name, kind in fields],
                         ["pick line circ", "row 3 num 2", "row 2 dot", "num 3", "dot"])
        self.assertEqual([kind.word() for name, kind in fields], ["pick", "row", "row", "num", "shape"])
        self.assertEqual([kind.size() for name, kind in fields], [8, 6, 6, 3, 3])
        self.assertEqual([kind.depth() for name, kind in fields], [2, 0, 1, 0, 1])
        self.assertTrue(all(isinstance(kind, Kind) for name, kind in fields))

    def test_what_kinds_have(self):
        shapes = read_shapes(DRAWING)
        what, rows, dots, number, small = [kind for name, kind in shapes.main().fields]
        self.assertEqual(what.shapes, (shapes.shape_of("line"), shapes.shape_of("circ")))
        self.assertEqual((rows.count, rows.kind.word(), rows.kind.width), (3, "num", 2))
        self.assertEqual((dots.count, dots.kind.word()), (2, "shape"))
        self.assertIs(dots.kind.shape, shapes.shape_of("dot"))
        self.assertEqual(number.width, 3)
        self.assertIs(small.shape, shapes.shape_of("dot"))

    def test_asked_again_they_tell_the_same(self):
        one, other = read_shapes(PICKS), read_shapes(PICKS)
        for first, second in zip(one.shapes, other.shapes):
            self.assertEqual(told(first), told(second))
            self.assertEqual(first.units(), first.units())
            self.assertEqual(first.leaves(), second.leaves())


class Units(unittest.TestCase):

    def test_units_of_each_kind(self):
        self.assertEqual(read_shapes(DRAWING).main().units(), [
            ("what.tag", 1, "tag"), ("what", 7, "pick"),
            ("rows.0", 2, "num"), ("rows.1", 2, "num"), ("rows.2", 2, "num"),
            ("dots.0.x", 2, "num"), ("dots.0.y", 1, "num"), ("dots.1.x", 2, "num"), ("dots.1.y", 1, "num"),
            ("n", 3, "num"), ("dot.x", 2, "num"), ("dot.y", 1, "num"),
        ])

    def test_units_of_other_than_the_main_shape(self):
        shapes = read_shapes(DRAWING)
        self.assertEqual(shapes.shape_of("line").units(), [
            ("from.x", 2, "num"), ("from.y", 1, "num"), ("to.x", 2, "num"), ("to.y", 1, "num")])

    def test_picks_in_rows_and_within_picks(self):
        self.assertEqual(read_shapes(PICKS).main().units(), [
            ("v.tag", 1, "tag"), ("v", 8, "pick"),
            ("w.0.r.tag", 1, "tag"), ("w.0.r", 2, "pick"), ("w.0.s", 1, "num"),
            ("w.1.r.tag", 1, "tag"), ("w.1.r", 2, "pick"), ("w.1.s", 1, "num"),
        ])

    def test_shapes_four_deep(self):
        text = "shape a\nz num 4\nshape b\ny a\nshape c\nx row 2 b\nshape d\nw c"
        self.assertEqual(read_shapes(text).main().units(), [("w.x.0.y.z", 4, "num"), ("w.x.1.y.z", 4, "num")])

    def test_all_widths_together_are_the_size(self):
        for seed in SEEDS:
            for shape in read_shapes(some_text(seed)).shapes:
                units = shape.units()
                self.assertEqual(sum(width for path, width, sort in units), shape.size())
                self.assertEqual(len({path for path, width, sort in units}), len(units))

    def test_the_list_is_new_each_time(self):
        shape = read_shapes(PICKS).main()
        before = shape.units()
        shape.units().clear()
        self.assertEqual(shape.units(), before)
        self.assertTrue(all(type(unit) is tuple for unit in before))


class Leaves(unittest.TestCase):

    def test_words_outside_and_within_a_pick(self):
        line, circle = (("what", 0),), (("what", 1),)
        self.assertEqual(read_shapes(DRAWING).main().leaves(), [
            ("what.line.from.x", 2, "what", 0, line), ("what.line.from.y", 1, "what", 2, line),
            ("what.line.to.x", 2, "what", 3, line), ("what.line.to.y", 1, "what", 5, line),
            ("what.circ.mid.x", 2, "what", 0, circle), ("what.circ.mid.y", 1, "what", 2, circle),
            ("what.circ.r", 4, "what", 3, circle),
            ("rows.0", 2, "rows.0", 0, ()), ("rows.1", 2, "rows.1", 0, ()), ("rows.2", 2, "rows.2", 0, ()),
            ("dots.0.x", 2, "dots.0.x", 0, ()), ("dots.0.y", 1, "dots.0.y", 0, ()),
            ("dots.1.x", 2, "dots.1.x", 0, ()), ("dots.1.y", 1, "dots.1.y", 0, ()),
            ("n", 3, "n", 0, ()), ("dot.x", 2, "dot.x", 0, ()), ("dot.y", 1, "dot.y", 0, ()),
        ])

    def test_picks_within_picks(self):
        first, second = ("v", 0), ("v.d.u", 0)
        self.assertEqual(read_shapes(PICKS).main().leaves(), [
            ("v.d.t", 3, "v", 0, (first,)),
            ("v.d.u.tag", 1, "v", 3, (first,)),
            ("v.d.u.c.r.tag", 1, "v", 4, (first, second)),
            ("v.d.u.c.r.a.p", 1, "v", 5, (first, second, ("v.d.u.c.r", 0))),
            ("v.d.u.c.r.b.q", 2, "v", 5, (first, second, ("v.d.u.c.r", 1))),
            ("v.d.u.c.s", 1, "v", 7, (first, second)),
            ("v.d.u.a.p", 1, "v", 4, (first, ("v.d.u", 1))),
            ("v.b.q", 2, "v", 0, (("v", 1),)),
            ("w.0.r.a.p", 1, "w.0.r", 0, (("w.0.r", 0),)),
            ("w.0.r.b.q", 2, "w.0.r", 0, (("w.0.r", 1),)),
            ("w.0.s", 1, "w.0.s", 0, ()),
            ("w.1.r.a.p", 1, "w.1.r", 0, (("w.1.r", 0),)),
            ("w.1.r.b.q", 2, "w.1.r", 0, (("w.1.r", 1),)),
            ("w.1.s", 1, "w.1.s", 0, ()),
        ])

    def test_rows_of_shapes_with_picks_within_a_pick(self):
        text = PICKS + "\nshape f\ng row 2 c\nh num 2\nk row 2 num 3\nshape k\nm pick a f\nn num 1"
        row, one, two = ("m", 1), "m.f.g.0.r", "m.f.g.1.r"
        self.assertEqual(read_shapes(text).main().leaves(), [
            ("m.a.p", 1, "m", 0, (("m", 0),)),
            (one + ".tag", 1, "m", 0, (row,)),
            (one + ".a.p", 1, "m", 1, (row, (one, 0))), (one + ".b.q", 2, "m", 1, (row, (one, 1))),
            ("m.f.g.0.s", 1, "m", 3, (row,)),
            (two + ".tag", 1, "m", 4, (row,)),
            (two + ".a.p", 1, "m", 5, (row, (two, 0))), (two + ".b.q", 2, "m", 5, (row, (two, 1))),
            ("m.f.g.1.s", 1, "m", 7, (row,)),
            ("m.f.h", 2, "m", 8, (row,)), ("m.f.k.0", 3, "m", 10, (row,)), ("m.f.k.1", 3, "m", 13, (row,)),
            ("n", 1, "n", 0, ()),
        ])

    def test_each_lies_within_its_unit(self):
        for seed in SEEDS:
            shape = read_shapes(some_text(seed)).main()
            widths = {path: width for path, width, sort in shape.units()}
            for path, width, unit, offset, holds in shape.leaves():
                self.assertGreaterEqual(offset, 0)
                self.assertLessEqual(offset + width, widths[unit])

    def test_they_share_a_cell_only_where_a_pick_holds_unlike_numbers(self):
        for text in [DRAWING, PICKS] + [some_text(seed) for seed in range(40)]:
            leaves = read_shapes(text).main().leaves()
            for at, (path, width, unit, offset, holds) in enumerate(leaves):
                for other in leaves[:at]:
                    shared = unit == other[2] and offset < other[3] + other[1] and other[3] < offset + width
                    unlike = [pick for pick in holds if pick[0] in dict(other[4]) and pick not in other[4]]
                    self.assertTrue(unlike or not shared, (path, other[0]))

    def test_words_lie_one_behind_the_other(self):
        for seed in SEEDS:
            shape = read_shapes(some_text(seed)).main()
            tags = [unit for unit in shape.units() if unit[2] == "tag"]
            nums = [unit for unit in shape.units() if unit[2] == "num"]
            outside = [leaf for leaf in shape.leaves() if not leaf[4]]
            self.assertEqual([leaf[:4] for leaf in outside], [unit[:2] + (unit[0], 0) for unit in nums])
            self.assertEqual({hold[0] for leaf in shape.leaves() for hold in leaf[4][:1]},
                             {path[:-len(".tag")] for path, width, sort in tags})

    def test_the_list_is_new_each_time(self):
        shape = read_shapes(PICKS).main()
        before = shape.leaves()
        shape.leaves().clear()
        self.assertEqual(shape.leaves(), before)
        self.assertTrue(all(type(leaf) is tuple and type(leaf[4]) is tuple for leaf in before))


class KindOf(unittest.TestCase):

    def test_the_text_without_signs_leads_to_the_shape_itself(self):
        for shape in read_shapes(DRAWING).shapes:
            kind = shape.kind_of("")
            self.assertIsInstance(kind, Nested)
            self.assertIs(kind.shape, shape)

    def test_paths_that_lead_to_a_kind(self):
        shape = read_shapes(DRAWING).main()
        for path, text in (
            ("what", "pick line circ"), ("what.line", "line"), ("what.circ", "circ"), ("what.line.to", "dot"),
            ("what.line.to.x", "num 2"), ("what.circ.r", "num 4"), ("what.circ.mid.y", "num 1"),
            ("rows", "row 3 num 2"), ("rows.0", "num 2"), ("rows.2", "num 2"), ("dots", "row 2 dot"),
            ("dots.0", "dot"), ("dots.1", "dot"), ("dots.1.y", "num 1"), ("n", "num 3"), ("dot", "dot"),
            ("dot.x", "num 2"),
        ):
            kind = shape.kind_of(path)
            self.assertIsInstance(kind, Kind)
            self.assertEqual(kind.text(), text, path)

    def test_paths_through_picks_within_picks(self):
        shape = read_shapes(PICKS).main()
        for path, text in (("v.d.u", "pick c a"), ("v.d.u.c", "c"), ("v.d.u.c.r.b.q", "num 2"), ("w.1.r.a", "a"),
                           ("w.1.r", "pick a b"), ("v.b", "b")):
            self.assertEqual(shape.kind_of(path).text(), text)

    def test_a_picks_shape_is_led_to_as_the_kind_that_names_it(self):
        shapes = read_shapes(DRAWING)
        for path, name in (("what.line", "line"), ("what.circ", "circ"), ("dots.0", "dot"), ("dot", "dot")):
            kind = shapes.main().kind_of(path)
            self.assertIsInstance(kind, Nested)
            self.assertIs(kind.shape, shapes.shape_of(name))

    def test_each_unit_and_leaf_leads_to_a_kind_unless_it_is_a_tag(self):
        for text in [DRAWING, PICKS] + [some_text(seed) for seed in range(40)]:
            shape = read_shapes(text).main()
            for path, width in [row[:2] for row in shape.units() + shape.leaves()]:
                if path.endswith(".tag"):
                    refused(self, NoPath, {"path": path}, shape.kind_of, path)
                elif shape.kind_of(path).word() == "pick":
                    self.assertEqual(shape.kind_of(path).size(), 1 + width)
                else:
                    self.assertEqual(shape.kind_of(path).text(), "num %d" % width)

    def test_what_leads_to_none_is_refused(self):
        shape = read_shapes(DRAWING).main()
        for path in (
            ".", "..", " ", "x", "fig", "what.tag", "tag", "what.", ".what", "what..line", "what.0", "what.fig",
            "what.dot", "what.x", "what.line.", "what.line.x", "what.line.from.x.y", "what.pick", "n.0", "n.n", "n.",
            "n.tag", "rows.3", "rows.00", "rows.01", "rows.-1", "rows.a", "rows.", "rows.0.0", "rows.0.", "rows. 0",
            "rows.+0", "rows.10000000000", "rows.tag", "dots.2", "dots.x", "dots.0.z", "dots.0.tag", "dot.dot",
            "dot.0", "dots.dot", "what line", "what.Line", "what.line ", "what,line", "rows.0\n",
        ):
            refused(self, NoPath, {"path": path}, shape.kind_of, path)

    def test_other_things_are_refused(self):
        shape = read_shapes("shape ab\nx row 2 num 1").main()
        for thing in ODD + [["x"], ("x",), ("x", 0), [], (), {"x": 0}, 0, shape, shape.fields]:
            if thing != "":
                refused(self, NoPath, {"path": thing}, shape.kind_of, thing)

    def test_a_row_has_its_elements_and_no_more(self):
        for count in range(1, 7):
            shape = read_shapes("shape a\nx row %d num 1" % count).main()
            for number in range(12):
                if number < count:
                    self.assertEqual(shape.kind_of("x.%d" % number).text(), "num 1")
                else:
                    self.assertRaises(NoPath, shape.kind_of, "x.%d" % number)


if __name__ == "__main__":
    unittest.main()
