"""Shapes opened in their place and closed again, and paths, programs, layings and records that are led along."""

import copy
import random
import unittest

from roomslaid.cellstore import Cells
from roomslaid.errors import (
    Lacking, LaidTwice, Meets, NoLaying, NoOpen, NoPath, NoProgram, NoRecord, Past, RoomError, TooMuch, UnknownUnit, WrongPath)
from roomslaid.flats import flat
from roomslaid.layingtext import read_laying
from roomslaid.makers import packed
from roomslaid.opening import Opening, closing
from roomslaid.program import read_program
from roomslaid.records import blank
from roomslaid.runs import run
from roomslaid.shapes import Shapes
from roomslaid.shapetext import read_shapes
from roomslaid.stores import Plain
from roomslaid.words import is_name
from tests.helper import (
    DRAWING, ODD, PICKS, is_apart, openings, plain, refusal, refused, refused_at, some_laying, some_program, some_record,
    some_text)

FIGURES = read_shapes(DRAWING)
FIGURE = {
    "what": (1, {"mid": {"x": 300, "y": 7}, "r": 70000}),
    "rows": [1, 2, 65535],
    "dots": [{"x": 5, "y": 6}, {"x": 8, "y": 9}],
    "n": 16777215,
    "dot": {"x": 3, "y": 4},
}


def last():
    """The figures with the last field of the main shape opened."""
    return Opening(FIGURES, "fig", "dot", ["dx", "dy"])


def within():
    """The figures with a field of a shape opened that is one of a pick's."""
    return Opening(FIGURES, "circ", "mid", ["mx", "my"])


def nested():
    """Shapes of which the one that is opened is a field, a row's element and a pick's choice of others."""
    return read_shapes("\n".join([
        "shape dot", "x num 2", "y num 1",
        "shape box", "low dot", "n num 1", "high dot",
        "shape tiny", "p num 1",
        "shape main", "one box", "all row 2 box", "any pick tiny box",
    ]))


def all_paths(opening, kind, path):
    """All paths before from this kind on, as tuples (path, whether it ends at the opened field), in their order."""
    dot = path and path + "."
    rows = [(path, False)]
    if kind.word() == "shape":
        for name, inner in kind.shape.fields:
            found = all_paths(opening, inner, dot + name)
            if kind.shape.name == opening.name and name == opening.field:
                found[0] = (found[0][0], True)
            rows.extend(found)
    if kind.word() == "row":
        for step in [str(number) for number in range(kind.count)] + ["k", "abcdef", "x"]:
            rows.extend(all_paths(opening, kind.kind, dot + step))
    if kind.word() == "pick":
        rows.append((dot + "tag", False))
        for shape in kind.shapes:
            rows.extend(all_paths(opening, shape.kind_of(""), dot + shape.name))
    return rows


def after_paths(kind, path):
    """All paths after from this kind on, in their order."""
    class Nothing:
        name = field = None
    return [found for found, is_field in all_paths(Nothing, kind, path)]


def drawn():
    """Openings of shapes that are drawn, each with what draws things for it."""
    texts = [DRAWING, PICKS, nested().text()] + [some_text(seed) for seed in range(60)]
    for seed, text in enumerate(texts):
        for opening in openings(read_shapes(text)):
            yield opening, random.Random(seed)


class Opened(unittest.TestCase):

    def test_what_it_tells(self):
        names = ["dx", "dy"]
        opening = Opening(FIGURES, "fig", "dot", names)
        self.assertIs(opening.before, FIGURES)
        self.assertIsInstance(opening.after, Shapes)
        self.assertEqual((opening.name, opening.field, opening.given), ("fig", "dot", ("dx", "dy")))
        self.assertEqual(FIGURES.text(), DRAWING)
        names.clear()
        self.assertEqual(opening.given, ("dx", "dy"))

    def test_the_last_field(self):
        self.assertEqual(last().after.text(), DRAWING.replace("\ndot dot", "\ndx num 2\ndy num 1"))

    def test_the_first_field_and_a_middle_one(self):
        text = nested().text()
        self.assertEqual(Opening(nested(), "box", "low", ["a", "b"]).after.text(), text.replace("low dot", "a num 2\nb num 1"))
        self.assertEqual(Opening(nested(), "main", "one", ["a", "b", "c"]).after.text(), text.replace(
            "one box", "a dot\nb num 1\nc dot"))
        shapes = read_shapes("shape a\nx num 1\nshape b\np num 1\nq a\nr num 1")
        self.assertEqual(Opening(shapes, "b", "q", ["z"]).after.text(), "shape a\nx num 1\nshape b\np num 1\nz num 1\nr num 1")

    def test_a_shape_that_stands_elsewhere(self):
        after = Opening(nested(), "box", "high", ["hx", "hy"]).after
        self.assertEqual([path for path, width, sort in after.main().units()], [
            "one.low.x", "one.low.y", "one.n", "one.hx", "one.hy",
            "all.0.low.x", "all.0.low.y", "all.0.n", "all.0.hx", "all.0.hy",
            "all.1.low.x", "all.1.low.y", "all.1.n", "all.1.hx", "all.1.hy", "any.tag", "any"])
        self.assertIs(after.main().fields[0][1].shape, after.shape_of("box"))
        self.assertIs(after.main().fields[1][1].kind.shape, after.shape_of("box"))
        self.assertIs(after.main().fields[2][1].shapes[1], after.shape_of("box"))

    def test_fields_of_all_kinds(self):
        shapes = read_shapes("\n".join([
            "shape a", "x num 1", "shape b", "p a", "q row 2 a", "r row 3 num 2", "s num 4", "shape c", "t pick a b",
            "shape d", "u b", "v c"]))
        self.assertEqual(Opening(shapes, "d", "u", ["f", "g", "h", "i"]).after.text().split("\n")[-5:], [
            "f a", "g row 2 a", "h row 3 num 2", "i num 4", "v c"])
        self.assertEqual(Opening(shapes, "d", "v", ["v"]).after.text().split("\n")[-2:], ["u b", "v pick a b"])

    def test_new_names_like_others(self):
        for names in (["x", "y"], ["y", "x"], ["dot", "y"], ["x", "dot"], ["a", "aa"], ["aa", "a"], ["circ", "fig"], ["rowss", "r"]):
            opening = Opening(FIGURES, "fig", "dot", names)
            self.assertEqual(opening.given, tuple(names))
            self.assertEqual(opening.after.text(), DRAWING.replace("\ndot dot", "\n%s num 2\n%s num 1" % tuple(names)))

    def test_six_fields_and_seven(self):
        rows = ["%s num 1" % name for name in "abcde"]
        for many in (4, 5):
            for inner in (1, 2, 3):
                text = "\n".join(["shape i"] + ["%s num 1" % name for name in "xyz"[:inner]] + ["shape o", "f i"] + rows[:many])
                names = ["x", "y", "z"][:inner]
                if many + inner <= 6:
                    self.assertEqual(len(Opening(read_shapes(text), "o", "f", names).after.main().fields), many + inner)
                else:
                    refused_at(self, TooMuch, {"line": -1}, Opening, read_shapes(text), "o", "f", names)

    def test_depths_may_become_less(self):
        shapes = read_shapes("shape a\nx num 1\nshape b\np a\nshape c\nq b\nshape d\nr c")
        self.assertEqual([shape.depth() for shape in Opening(shapes, "b", "p", ["z"]).after.shapes], [1, 1, 2, 3])
        self.assertEqual([shape.depth() for shape in Opening(shapes, "d", "r", ["z"]).after.shapes], [1, 2, 3, 3])

    def test_sizes_units_and_leaves_stay(self):
        many = 0
        for opening, dice in drawn():
            many += 1
            self.assertEqual([shape.name for shape in opening.after.shapes], [shape.name for shape in opening.before.shapes])
            for one, other in zip(opening.before.shapes, opening.after.shapes):
                self.assertEqual(one.size(), other.size())
                self.assertGreaterEqual(one.depth(), other.depth())
                self.assertEqual([row[1:] for row in one.units()], [row[1:] for row in other.units()])
                self.assertEqual([(width, offset, [number for path, number in holds]) for path, width, unit, offset, holds in one.leaves()],
                                 [(width, offset, [number for path, number in holds]) for path, width, unit, offset, holds in other.leaves()])
            # What comes out is a text of shapes.
            self.assertEqual(read_shapes(opening.after.text()).text(), opening.after.text())
        self.assertGreater(many, 40)

    def test_what_names_no_shape(self):
        for thing in ODD + ["x", "what", "fig ", "figg", ["fig"], ("fig",), FIGURES.main()]:
            refused(self, NoOpen, {"found": thing}, Opening, FIGURES, thing, "dot", ["dx", "dy"])
            refused(self, NoOpen, {"found": thing}, Opening, FIGURES, thing, None, None)

    def test_what_names_no_field_that_is_a_shape(self):
        for name, fields in (("dot", "xy"), ("line", "xr"), ("circ", "rx")):
            for field in fields:
                refused(self, NoOpen, {"found": field}, Opening, FIGURES, name, field, ["dx", "dy"])
        for thing in ODD + ["what", "rows", "dots", "n", "x", "fig", "dot.x", ["dot"], ("dot",)]:
            refused(self, NoOpen, {"found": thing}, Opening, FIGURES, "fig", thing, ["dx", "dy"])
            refused(self, NoOpen, {"found": thing}, Opening, FIGURES, "fig", thing, None)

    def test_what_is_no_list_of_new_names(self):
        for thing in ODD + [("dx", "dy"), "dxdy", ["dx"], ["dx", "dy", "dz"], ["dx", "dx"], ["dx", "n"], ["what", "dy"], ["dx", "shape"],
                            ["dx", "tag"], ["dx", "toolong"], ["dx", "Dy"], ["dx", ""], ["dx", "d1"], ["dx", None], ["dx", 0],
                            ["dx", ["dy"]], {"dx": 0, "dy": 1}, ["dx", "dots"], ["n", "dot"]]:
            refused(self, NoOpen, {"found": thing}, Opening, FIGURES, "fig", "dot", thing)
        for thing in ODD:
            names = [thing, "dy"]
            if not is_name(thing):
                refused(self, NoOpen, {"found": names}, Opening, FIGURES, "fig", "dot", names)

    def test_names_ahead_of_too_many_fields(self):
        shapes = read_shapes("shape i\nx num 1\ny num 1\nshape o\nf i\na num 1\nb num 1\nc num 1\nd num 1\ne num 1")
        names = ["x", "a"]
        refused(self, NoOpen, {"found": names}, Opening, shapes, "o", "f", names)
        refused_at(self, TooMuch, {"line": -1}, Opening, shapes, "o", "f", ["x", "y"])


class Paths(unittest.TestCase):

    def test_through_beside_and_to(self):
        opening = last()
        for before, after in (("dot.x", "dx"), ("dot.y", "dy"), ("n", "n"), ("what.circ.mid.x", "what.circ.mid.x"), ("dots.1.x", "dots.1.x"),
                              ("what.tag", "what.tag"), ("what", "what"), ("dots", "dots"), ("dots.0", "dots.0"), ("dots.k", "dots.k"),
                              ("rows.x", "rows.x"), ("rows.dot", "rows.dot"), ("", "")):
            self.assertEqual((opening.onward(before), opening.backward(after)), (after, before))
        refused(self, NoPath, {"path": "dot"}, opening.onward, "dot")
        for path in ("dot", "dot.x", "dx.x", "x", "dots.dx.dx"):
            refused(self, NoPath, {"path": path}, opening.backward, path)

    def test_within_a_pick(self):
        opening = within()
        for before, after in (("what.circ.mid.x", "what.circ.mx"), ("what.circ.mid.y", "what.circ.my"), ("what.circ.r", "what.circ.r"),
                              ("what.circ", "what.circ"), ("what.line.from.x", "what.line.from.x"), ("dot.x", "dot.x")):
            self.assertEqual((opening.onward(before), opening.backward(after)), (after, before))
        refused(self, NoPath, {"path": "what.circ.mid"}, opening.onward, "what.circ.mid")
        refused(self, NoPath, {"path": "what.circ.mid.x"}, opening.backward, "what.circ.mid.x")

    def test_a_shape_that_stands_at_several_places(self):
        opening = Opening(nested(), "box", "low", ["nn", "low"])
        for before, after in (("one.low.x", "one.nn"), ("one.low.y", "one.low"), ("one.n", "one.n"), ("one.high.x", "one.high.x"),
                              ("all.1.low.y", "all.1.low"), ("all.low.low.x", "all.low.nn"), ("all.k.high", "all.k.high"),
                              ("any.box.low.x", "any.box.nn"), ("any.tag", "any.tag"), ("any.tiny.p", "any.tiny.p")):
            self.assertEqual((opening.onward(before), opening.backward(after)), (after, before))
        for path in ("one.low", "all.0.low", "all.k.low", "any.box.low"):
            refused(self, NoPath, {"path": path}, opening.onward, path)
        refused(self, NoPath, {"path": "one.low.y"}, opening.backward, "one.low.y")

    def test_new_names_that_change_places(self):
        opening = Opening(FIGURES, "fig", "dot", ["y", "x"])
        self.assertEqual([opening.onward(path) for path in ("dot.x", "dot.y")], ["y", "x"])
        self.assertEqual([opening.backward(path) for path in ("y", "x")], ["dot.x", "dot.y"])

    def test_the_fields_own_name_stays_the_name_of_one(self):
        opening = Opening(FIGURES, "fig", "dot", ["x", "dot"])
        self.assertEqual((opening.onward("dot.y"), opening.backward("dot")), ("dot", "dot.y"))
        self.assertEqual(opening.backward(opening.onward("dot.x")), "dot.x")

    def test_what_lies_deeper_in_the_opened_field(self):
        opening = Opening(nested(), "main", "one", ["low", "n", "hi"])
        for before, after in (("one.low", "low"), ("one.low.x", "low.x"), ("one.n", "n"), ("one.high.y", "hi.y"), ("all.0.low.x", "all.0.low.x")):
            self.assertEqual((opening.onward(before), opening.backward(after)), (after, before))
        refused(self, NoPath, {"path": "one"}, opening.onward, "one")

    def test_all_paths(self):
        for opening, dice in drawn():
            rows = all_paths(opening, opening.before.main().kind_of(""), "")
            before = [path for path, is_field in rows if not is_field]
            after = after_paths(opening.after.main().kind_of(""), "")
            self.assertEqual([opening.onward(path) for path in before], after)
            self.assertEqual([opening.backward(path) for path in after], before)
            for path, is_field in rows:
                if is_field:
                    refused(self, NoPath, {"path": path}, opening.onward, path)

    def test_units_and_leaves(self):
        for opening, dice in drawn():
            for one, other in ((opening.before.main().units(), opening.after.main().units()),
                               (opening.before.main().leaves(), opening.after.main().leaves())):
                self.assertEqual([opening.onward(row[0]) for row in one], [row[0] for row in other])
                self.assertEqual([opening.backward(row[0]) for row in other], [row[0] for row in one])

    def test_what_is_no_path(self):
        opening = last()
        things = [thing for thing in ODD if thing != ""] + [
            ".n", "n.", "n.n", "what.tag.tag", "what.tag.x", "what.tag.", "tag", "rows.tag", "what.dot", "what.0", "what.k", "dots.2.x",
            "dots.00.x", "dots.-1", "dots.01", "rows.3", "rows.", "rows.Row", "rows.toolong", "rows.shape", "rows.0.x", "rows.k.k",
            "dots..x", "what.line.from.z", "fig", "n x", " n", ("n",), ["n"], ("dots", 0), "dots.k.z", "dots.k.", "dots.tag.x"]
        for thing in things:
            refused(self, NoPath, {"path": thing}, opening.onward, thing)
            refused(self, NoPath, {"path": thing}, opening.backward, thing)
        for thing in ("dot.z", "dot.", "dot.tag", "dot.0", "dot.k"):
            refused(self, NoPath, {"path": thing}, opening.onward, thing)


class Programs(unittest.TestCase):

    def test_each_path_and_nothing_else(self):
        text = "\n".join([
            "dot = look dot dot.x", "store dot dot.y x", "each dot", "x = which dot what", "choose dot what dot", "a = look dot rows.dot",
            "if dot", "copy dot x", "else", "out dot", "end", "end", "a = dot * x", "a = look i what.circ.mid.x"])
        led = text.replace("dot.x\n", "dx\n").replace("dot.y ", "dy ")
        self.assertEqual(last().program_onward(text), led)
        self.assertEqual(last().program_backward(led), text)
        led = text.replace("what.circ.mid.x", "what.circ.mx")
        self.assertEqual(within().program_onward(text), led)
        self.assertEqual(within().program_backward(led), text)

    def test_elements_by_names_like_fields(self):
        opening = Opening(nested(), "box", "low", ["lx", "ly"])
        text = "a = look i all.low.low.x\nstore i all.one.low.y a\na = look low any.box.low.x\na = which i any"
        led = "a = look i all.low.lx\nstore i all.one.ly a\na = look low any.box.lx\na = which i any"
        self.assertEqual((opening.program_onward(text), opening.program_backward(led)), (led, text))

    def test_no_rows(self):
        self.assertEqual((last().program_onward(""), last().program_backward("")), ("", ""))

    def test_refused_as_when_it_is_read(self):
        opening = last()
        for thing in ODD:
            if not isinstance(thing, str):
                refused_at(self, NoProgram, {"line": 0}, opening.program_onward, thing)
                refused_at(self, NoProgram, {"line": 0}, opening.program_backward, thing)
        refused_at(self, WrongPath, {"line": 1, "path": "dx"}, opening.program_onward, "out a\na = look i dx")
        refused_at(self, WrongPath, {"line": 1, "path": "dot.x"}, opening.program_backward, "out a\na = look i dot.x")
        refused_at(self, WrongPath, {"line": 0, "path": "dot"}, opening.program_onward, "a = look i dot")
        refused_at(self, WrongPath, {"line": 0, "path": "what.tag"}, opening.program_onward, "a = look i what.tag")
        refused_at(self, NoProgram, {"line": 1}, opening.program_onward, "each i")
        refused_at(self, NoProgram, {"line": 1}, opening.program_onward, "out a\n")
        refused_at(self, TooMuch, {"line": 60}, opening.program_onward, "\n".join(["out a"] * 61))
        for lead, shapes in ((opening.program_onward, opening.before), (opening.program_backward, opening.after)):
            for text in ODD + ["out a b", "end", "else", "a = look i n x", "a  = 1", "choose i n a", "a = look i zz", "store i what a"]:
                if text != "":
                    error, other = told(read_program, shapes, text), told(lead, text)
                    self.assertEqual(plain(vars(error)), plain(vars(other)))
                    self.assertIs(error.__class__, other.__class__)

    def test_drawn(self):
        for opening, dice in drawn():
            text = some_program(opening.before.main(), dice)
            led = opening.program_onward(text)
            self.assertEqual(read_program(opening.after, led).names(), read_program(opening.before, text).names())
            self.assertEqual(opening.program_backward(led), text)


def told(call, *handed):
    """The refusal that the call raises."""
    try:
        call(*handed)
    except RoomError as error:
        return error
    raise AssertionError("not refused")


class Layings(unittest.TestCase):

    def test_each_unit_and_tag(self):
        text = packed(FIGURES, 3)
        self.assertIn("tags", text)
        led = text.replace(" dot.x dot.y", " dx dy")
        self.assertNotEqual(led, text)
        self.assertEqual((last().laying_onward(text), last().laying_backward(led)), (led, text))
        self.assertEqual((within().laying_onward(text), within().laying_backward(text)), (text, text))

    def test_tags_within_the_opened_field(self):
        shapes = read_shapes("shape a\nx num 1\nshape b\ny num 2\nshape c\np pick a b\nq num 1\nshape d\nin c\nr pick b a")
        opening = Opening(shapes, "d", "in", ["pp", "qq"])
        text = packed(shapes, 5)
        self.assertEqual(text.split("\n")[1:], ["part 0 1 1 : in.p in.q r", "tags 25 : in.p.tag r.tag"])
        self.assertEqual(opening.laying_onward(text).split("\n"), [
            text.split("\n")[0], "part 0 1 1 : pp qq r", "tags 25 : pp.tag r.tag"])
        self.assertEqual(opening.laying_backward(opening.laying_onward(text)), text)

    def test_refused_as_when_it_is_read(self):
        opening = last()
        for thing in ODD:
            if not isinstance(thing, str):
                refused_at(self, NoLaying, {"line": 0}, opening.laying_onward, thing)
                refused_at(self, NoLaying, {"line": 0}, opening.laying_backward, thing)
        text = packed(FIGURES, 3)
        led = last().laying_onward(text)
        for changed, kind in ((text.replace("dot.x", "dx"), UnknownUnit), (text.replace(" dot.x", ""), Lacking),
                              (text.replace("dot.x", "dot.y"), LaidTwice), (text.replace("things 3", "things 4"), Past),
                              (text.replace("things", "thing"), NoLaying), (text.replace("tags 75", "tags 74"), Meets)):
            self.assertNotEqual(changed, text)
            error = refusal(self, kind, opening.laying_onward, changed)
            self.assertEqual(vars(error), vars(refusal(self, kind, read_laying, opening.before, changed)))
        for changed, kind in ((led.replace("dx", "dot.x"), UnknownUnit), (led.replace(" dx", ""), Lacking), (led.replace("dx", "dy"), LaidTwice),
                              (led.replace("things 3", "things 4"), Past), (led.replace("tags 75", "tags 74"), Meets)):
            error = refusal(self, kind, opening.laying_backward, changed)
            self.assertEqual(vars(error), vars(refusal(self, kind, read_laying, opening.after, changed)))

    def test_each_unit_stays_where_it_was(self):
        for opening, dice in drawn():
            text = some_laying(opening.before.main(), dice, 4)
            led = opening.laying_onward(text)
            one, other = read_laying(opening.before, text), read_laying(opening.after, led)
            for unit, width, sort in opening.before.main().units():
                for thing in range(4):
                    self.assertEqual(one.place(unit, thing), other.place(opening.onward(unit), thing))
            for path, width, unit, offset, holds in opening.before.main().leaves():
                self.assertEqual(one.leaf_place(path, 3), other.leaf_place(opening.onward(path), 3))
            self.assertEqual(opening.laying_backward(led), text)


class Records(unittest.TestCase):

    def test_onward_and_backward(self):
        led = last().record_onward(FIGURE)
        wanted = {**FIGURE, "dx": 3, "dy": 4}
        del wanted["dot"]
        self.assertEqual(plain(led), plain(wanted))
        self.assertEqual(plain(last().record_backward(led)), plain(FIGURE))
        led = within().record_onward(FIGURE)
        self.assertEqual(plain(led), plain(dict(FIGURE, what=(1, {"mx": 300, "my": 7, "r": 70000}))))
        self.assertEqual(plain(within().record_backward(led)), plain(FIGURE))

    def test_fields_in_their_shapes_orders(self):
        turned = {name: FIGURE[name] for name in reversed(list(FIGURE))}
        turned["what"] = (1, {"r": 70000, "mid": {"y": 7, "x": 300}})
        turned["dots"] = [{"y": 6, "x": 5}, {"y": 9, "x": 8}]
        for opening in (last(), within()):
            self.assertEqual(plain(opening.record_onward(turned)), plain(opening.record_onward(FIGURE)))
            led = opening.record_onward(FIGURE)
            mixed = {name: led[name] for name in reversed(list(led))}
            self.assertEqual(plain(opening.record_backward(mixed)), plain(FIGURE))

    def test_what_is_handed_in_stays(self):
        record = copy.deepcopy(FIGURE)
        led = last().record_onward(record)
        self.assertTrue(is_apart(led, record, last().record_backward(led), last().record_onward(record)))
        led["rows"][0] = 77
        self.assertEqual(record, FIGURE)

    def test_what_is_no_record(self):
        opening = last()
        led = opening.record_onward(FIGURE)
        for thing in ODD + [[FIGURE], dict(FIGURE, n=True), dict(FIGURE, dot={"x": 3}), led]:
            refused(self, NoRecord, {"found": thing}, opening.record_onward, thing)
        for thing in ODD + [[led], dict(led, n=-1), dict(led, dot=0), FIGURE]:
            refused(self, NoRecord, {"found": thing}, opening.record_backward, thing)

    def test_drawn(self):
        for opening, dice in drawn():
            record = some_record(opening.before.main(), dice)
            led = opening.record_onward(record)
            self.assertEqual(flat(opening.after.main(), led),
                             [(opening.onward(path), number) for path, number in flat(opening.before.main(), record)])
            self.assertEqual(plain(opening.record_backward(led)), plain(record))
            self.assertEqual(opening.record_onward(blank(opening.before.main())), blank(opening.after.main()))


class Closed(unittest.TestCase):

    def closed(self):
        return closing(last().after, "fig", 4, 2, "dot", "dot")

    def test_what_it_tells(self):
        after = last().after
        opening = closing(after, "fig", 4, 2, "dot", "dot")
        self.assertIsInstance(opening, Opening)
        self.assertIs(opening.after, after)
        self.assertEqual(opening.before.text(), DRAWING)
        self.assertEqual((opening.name, opening.field, opening.given), ("fig", "dot", ("dx", "dy")))
        self.assertEqual([opening.onward("dot.x"), opening.backward("dy")], ["dx", "dot.y"])

    def test_first_middle_and_last_fields(self):
        text = "shape i\nx num 1\nshape o\na num 1\nb num 1\nc num 1"
        for first, wanted in ((0, "f i\nb num 1\nc num 1"), (1, "a num 1\nf i\nc num 1"), (2, "a num 1\nb num 1\nf i")):
            opening = closing(read_shapes(text), "o", first, 1, "i", "f")
            self.assertEqual(opening.before.text(), "shape i\nx num 1\nshape o\n" + wanted)
            self.assertEqual(opening.given, ("abc"[first],))

    def test_all_fields(self):
        text = "shape i\nx num 1\ny row 2 num 3\nshape o\na num 1\nb row 2 num 3"
        opening = closing(read_shapes(text), "o", 0, 2, "i", "a")
        self.assertEqual(opening.before.text(), "shape i\nx num 1\ny row 2 num 3\nshape o\na i")
        self.assertEqual([opening.onward(path) for path in ("a.x", "a.y.1")], ["a", "b.1"])

    def test_a_shape_that_stands_elsewhere(self):
        shapes = read_shapes("\n".join([
            "shape w", "v num 2", "shape dot", "x num 2", "y num 1", "shape box", "low dot", "all row 2 dot", "shape m", "p pick dot box"]))
        opening = closing(shapes, "dot", 0, 1, "w", "x")
        self.assertEqual([path for path, *row in opening.before.main().leaves()], [
            "p.dot.x.v", "p.dot.y", "p.box.low.x.v", "p.box.low.y", "p.box.all.0.x.v", "p.box.all.0.y", "p.box.all.1.x.v", "p.box.all.1.y"])

    def test_the_new_fields_name(self):
        after = last().after
        for field in ("dx", "dy", "dot", "zz", "fig"):
            self.assertEqual(closing(after, "fig", 4, 2, "dot", field).before.main().fields[4][0], field)
        for thing in ODD + ["what", "n", "rows", "shape", "toolong", ["dot"], "Dot"]:
            if not is_name(thing) or thing in ("what", "n", "rows"):
                refused(self, NoOpen, {"found": thing}, closing, after, "fig", 4, 2, "dot", thing)
        shapes = read_shapes("shape i\nx num 1\nshape o\na num 1\nb num 1\nc num 1")
        for first, thing in ((0, "b"), (0, "c"), (1, "a"), (1, "c"), (2, "a"), (2, "b")):
            refused(self, NoOpen, {"found": thing}, closing, shapes, "o", first, 1, "i", thing)

    def test_what_names_no_shape(self):
        for thing in ODD + ["zz", "dx", ["fig"]]:
            refused(self, NoOpen, {"found": thing}, closing, last().after, thing, 4, 2, "dot", "dot")
            refused(self, NoOpen, {"found": thing}, closing, last().after, thing, None, None, None, None)

    def test_what_is_no_number_of_a_field(self):
        for thing in ODD + [6, "4", 4 + 10 ** 28, [4]]:
            if isinstance(thing, bool) or not isinstance(thing, int) or not 0 <= thing < 6:
                refused(self, NoOpen, {"found": thing}, closing, last().after, "fig", thing, 2, "dot", "dot")
                refused(self, NoOpen, {"found": thing}, closing, last().after, "fig", thing, None, None, None)

    def test_what_is_no_count_of_fields(self):
        for thing in ODD + [3, "2", [2]]:
            if isinstance(thing, bool) or not isinstance(thing, int) or not 1 <= thing <= 2:
                refused(self, NoOpen, {"found": thing}, closing, last().after, "fig", 4, thing, "dot", "dot")
                refused(self, NoOpen, {"found": thing}, closing, last().after, "fig", 4, thing, None, None)
        refused(self, NoOpen, {"found": 2}, closing, last().after, "fig", 5, 2, "dot", "dot")
        refused(self, NoOpen, {"found": 0}, closing, last().after, "fig", 5, 0, "dot", "dot")

    def test_what_is_no_inner_shape(self):
        for thing in ODD + ["zz", "fig", "line", "circ", ["dot"], ("dot",)]:
            refused(self, NoOpen, {"found": thing}, closing, last().after, "fig", 4, 2, thing, "dot")
            refused(self, NoOpen, {"found": thing}, closing, last().after, "fig", 4, 2, thing, None)

    def test_inner_shapes_with_other_kinds_or_told_behind(self):
        inner = "shape i\nx num 1\ny num 2"
        for fields in ("a num 2\nb num 1", "a num 1\nb num 1", "a num 1\nb row 1 num 2", "a row 1 num 1\nb num 2"):
            refused(self, NoOpen, {"found": "i"}, closing, read_shapes(inner + "\nshape o\n" + fields), "o", 0, 2, "i", "f")
        refused(self, NoOpen, {"found": "i"}, closing, read_shapes("shape o\na num 1\nb num 2\n" + inner), "o", 0, 2, "i", "f")
        refused(self, NoOpen, {"found": "i"}, closing, read_shapes(inner), "i", 0, 2, "i", "f")
        refused(self, NoOpen, {"found": "i"}, closing, read_shapes(inner + "\nshape o\na num 1\nb num 2"), "o", 0, 1, "i", "f")
        refused(self, NoOpen, {"found": "i"}, closing, read_shapes(inner + "\nshape o\na num 1\nb num 2\nc num 1"), "o", 0, 3, "i", "f")
        kinds = "shape p\nx num 1\nshape q\nx num 1\nshape i\nx p\ny pick p q\nshape o\n"
        closing(read_shapes(kinds + "a p\nb pick p q"), "o", 0, 2, "i", "f")
        for fields in ("a q\nb pick p q", "a p\nb pick q p"):
            refused(self, NoOpen, {"found": "i"}, closing, read_shapes(kinds + fields), "o", 0, 2, "i", "f")

    def test_too_deep(self):
        text = "shape t\nu num 1\nshape a\nx num 1\nshape b\np a\nshape c\nq b"
        opening = closing(read_shapes(text), "a", 0, 1, "t", "f")
        self.assertEqual([shape.depth() for shape in opening.before.shapes], [1, 2, 3, 4])
        for end in ("\nshape d\nr c", "\nshape d\nr row 2 c", "\nshape d\nr pick c a", "\nshape d\nr c\nshape e\nz num 1"):
            refused_at(self, TooMuch, {"line": -1}, closing, read_shapes(text + end), "a", 0, 1, "t", "f")
            refused(self, NoOpen, {"found": None}, closing, read_shapes(text + end), "a", 0, 1, "t", None)

    def test_opened_and_closed_again(self):
        for opening, dice in drawn():
            shape = opening.before.shape_of(opening.name)
            first = [name for name, kind in shape.fields].index(opening.field)
            inner = shape.fields[first][1].shape.name
            again = closing(opening.after, opening.name, first, len(opening.given), inner, opening.field)
            self.assertIs(again.after, opening.after)
            self.assertEqual((again.before.text(), again.after.text()), (opening.before.text(), opening.after.text()))
            self.assertEqual((again.name, again.field, again.given), (opening.name, opening.field, opening.given))
            program, laying = some_program(opening.before.main(), dice), some_laying(opening.before.main(), dice, 3)
            record = some_record(opening.before.main(), dice)
            self.assertEqual(again.program_backward(opening.program_onward(program)), program)
            self.assertEqual(again.laying_backward(opening.laying_onward(laying)), laying)
            self.assertEqual(plain(again.record_backward(opening.record_onward(record))), plain(record))

    def test_closed_and_opened_again(self):
        many = 0
        for seed in range(300):
            shapes, dice = read_shapes(some_text(seed)), random.Random(seed)
            for opening in closings(shapes):
                many += 1
                again = Opening(opening.before, opening.name, opening.field, list(opening.given))
                self.assertEqual(again.after.text(), shapes.text())
                self.assertIs(opening.after, shapes)
                program, laying = some_program(shapes.main(), dice), some_laying(shapes.main(), dice, 3)
                record = some_record(shapes.main(), dice)
                self.assertEqual(again.program_onward(opening.program_backward(program)), program)
                self.assertEqual(again.laying_onward(opening.laying_backward(laying)), laying)
                self.assertEqual(plain(again.record_onward(opening.record_backward(record))), plain(record))
        self.assertGreater(many, 40)


def closings(shapes):
    """All closings of the shapes that there may be, with a name that is new."""
    found = []
    for shape in shapes.shapes:
        for first in range(len(shape.fields)):
            for count in range(1, len(shape.fields) - first + 1):
                for inner in shapes.shapes:
                    try:
                        found.append(closing(shapes, shape.name, first, count, inner.name, "new"))
                    except (NoOpen, TooMuch):
                        pass
    return found


class Runs(unittest.TestCase):

    def test_a_program_led_onward_does_the_same(self):
        faults = set()
        for opening, dice in drawn():
            main = opening.before.main()
            records = [some_record(main, dice) for number in range(dice.randint(0, 4))]
            text, laid = some_program(main, dice), some_laying(main, dice, 4)
            programs = [read_program(opening.before, text), read_program(opening.after, opening.program_onward(text))]
            layings = [read_laying(opening.before, laid), read_laying(opening.after, opening.laying_onward(laid))]
            led = [opening.record_onward(record) for record in records]
            budget = dice.choice([5, 60, 400])
            plains = [Plain(opening.before, 4, records), Plain(opening.after, 4, led)]
            cells = [Cells(layings[0], records), Cells(layings[1], led)]
            for one, other in (plains, cells):
                before, after = run(programs[0], one, {}, budget), run(programs[1], other, {}, budget)
                faults.add(before.fault and before.fault[0])
                self.assertEqual(vars(before), vars(after))
                self.assertEqual([opening.record_onward(record) for record in one.records()], other.records())
                self.assertEqual([(word, thing, opening.onward(path), number) for word, thing, path, number in one.looks], other.looks)
            self.assertEqual(cells[0].places, cells[1].places)
            self.assertEqual(cells[0].cells(), cells[1].cells())
        self.assertEqual(faults, {None, "budget", "beyond", "other", "full"})


if __name__ == "__main__":
    unittest.main()
