"""A desk of lines: the form of each line, what it keeps and answers, and what it refuses."""

import copy
import random
import unittest

from roomslaid.cellstore import Cells
from roomslaid.chooser import least, table
from roomslaid.desk import Desk
from roomslaid.errors import (
    Beyond, Lacking, LaidTwice, Meets, NamedTwice, NoBudget, NoDesk, NoInput, NoKeep, NoLaying, NoLayings, NoLine, NoOpen, NoPath,
    NoProgram, NoShapes, NoThings, NoTurn, Other, Past, RoomError, TooMuch, UnknownShape, UnknownUnit, WrongPath)
from roomslaid.flats import flat
from roomslaid.layings import Laying
from roomslaid.layingtext import read_laying
from roomslaid.makers import by_blocks, by_field, by_thing, packed
from roomslaid.program import read_program
from roomslaid.records import blank, stored
from roomslaid.roompaper import paper
from roomslaid.runs import run
from roomslaid.shapetext import read_shapes
from roomslaid.stores import Plain
from roomslaid.turning import Turning, run_turning
from tests.helper import (
    DRAWING, ODD, PICKS, openings, plain, refusal, refused, refused_at, some_laying, some_program, some_record, some_text)

FIGURES = read_shapes(DRAWING)
PROGRAM = "each i\na = look i n\nout a\nstore i rows.k a\nend"
THING = "thing what:1 what.circ.mid.x=300 what.circ.r=70000 rows.2=5 n=9 dots.1.y=256 dot.x=65537"


def one_row(text):
    """A text of lines as a desk shows it."""
    return text.replace("\n", " / ")


def desk_of(*lines):
    """A desk to which these lines were said."""
    desk = Desk()
    for line in lines:
        desk.say(line)
    return desk


def full():
    """A desk that keeps shapes, a program, layings and things."""
    return desk_of("shapes " + one_row(DRAWING), "program " + one_row(PROGRAM), "made one thing 4 8", "made two packed 4",
                   THING, "thing", "thing n=77")


def small(*lines):
    """A desk of a small shape."""
    return desk_of("shapes shape a / x num 2 / y num 1", *lines)


def state(desk):
    """All that a desk keeps, as far as its answers tell."""
    told = []
    for line in ["show %d" % number for number in range(70)] + [
            "run 64 0", "run 64 300", "looks 64 300", "places one 300", "places two 300", "table 8 4 300", "paper one", "paper two",
            "place one n 0", "turn one two 1,1 300"]:
        try:
            told.append(desk.say(line))
        except RoomError as error:
            told.append((error.__class__.__name__, [thing for thing in vars(error).values() if not isinstance(thing, list)]))
    return plain(told)


class Lines(unittest.TestCase):

    GOOD = [
        "program out a / out k", "thing", "thing n=1", "clear", "show 0", "laying new " + one_row(by_field(FIGURES, 2)), "made new thing 2 1",
        "made new field 2", "made new blocks 2 2", "made new packed 2", "run 4 10", "run 4 10 a=1 k=2", "cells one 10", "looks 4 10",
        "places one 10", "lines one 8 4 10", "table 8 4 10", "turn one two 1 10", "turn one two 1,0,2 10 a=1", "place one n 0",
        "leaf one what.circ.r 0", "paper one", "open circ mid mx my",
    ]
    RUNS = ("run", "cells", "looks", "places", "lines", "table", "turn")

    def no_desk(self, desk, *lines):
        for line in lines:
            refused(self, NoDesk, {"line": line}, desk.say, line)

    def test_good_ones(self):
        for line in self.GOOD:
            self.assertIsInstance(full().say(line), str)

    def test_what_is_no_line(self):
        desk = full()
        before = state(desk)
        self.no_desk(desk, *ODD)
        self.no_desk(desk, "", " ", "  ", "say", "/", "shape a", "things", "help", "Shapes shape a / x num 1", ["clear"], ("clear",), b"clear")
        self.assertEqual(state(desk), before)

    def test_blanks_too_many(self):
        desk = full()
        before = state(desk)
        for line in self.GOOD + ["shapes shape a / x num 1"]:
            words = line.split(" ")
            self.no_desk(desk, " " + line, line + " ")
            self.no_desk(desk, *[" ".join(words[:at]) + "  " + " ".join(words[at:]) for at in range(1, len(words))])
        self.assertEqual(state(desk), before)

    def test_words_too_few_or_too_many(self):
        desk = full()
        before = state(desk)
        self.no_desk(
            desk, "shapes", "program", "laying", "laying new", "show", "show 0 0", "clear 0", "made new", "made new thing", "made new thing 2",
            "made new thing 2 1 1", "made new field", "made new field 2 2", "made new blocks 2", "made new blocks 2 2 2", "made new packed",
            "made new packed 2 2", "made", "made thing 2 1", "run", "run 4", "cells", "cells one", "looks", "looks 4", "places", "places one",
            "lines", "lines one", "lines one 8", "lines one 8 4", "table", "table 8", "table 8 4", "turn", "turn one", "turn one two",
            "turn one two 1", "place", "place one", "place one n", "place one n 0 0", "leaf", "leaf one", "leaf one n", "leaf one n 0 0", "paper",
            "paper one two", "open", "open circ", "open circ mid", "made new rows 2 1", "made new apart 2", "made new Thing 2 1")
        self.assertEqual(state(desk), before)

    def test_numbers(self):
        desk = full()
        before = state(desk)
        for word in ("00", "01", "-1", "+1", "1.0", "x", "12345678901", "00000000000", "1,", "1a", "0x1", "one"):
            self.no_desk(
                desk, "show " + word, "made new thing %s 1" % word, "made new thing 2 " + word, "made new field " + word,
                "made new blocks 2 " + word, "made new packed " + word, "run %s 10" % word, "run 4 " + word, "looks %s 10" % word,
                "looks 4 " + word, "cells one " + word, "places one " + word, "lines one %s 4 10" % word, "lines one 8 %s 10" % word,
                "lines one 8 4 " + word, "table %s 4 10" % word, "table 8 %s 10" % word, "table 8 4 " + word, "turn one two 1 " + word,
                "place one n " + word, "leaf one what.circ.r " + word, "thing n=" + word, "thing what:" + word, "run 4 10 a=" + word)
            if word != "1,":
                self.no_desk(desk, "turn one two %s 10" % word, "turn one two 1,%s 10" % word, "turn one two %s,1 10" % word)
        self.no_desk(desk, "turn one two , 10", "turn one two 1, 10", "turn one two ,1 10", "turn one two 1,,1 10", "turn one two 1, 1 10")
        self.assertEqual(state(desk), before)

    def test_numbers_of_ten_figures(self):
        desk = full()
        big = 9999999999
        for kind, fields, line in (
            (NoThings, {"found": big}, "made new thing 9999999999 1"), (NoLayings, {"found": big}, "made new thing 2 9999999999"),
            (NoThings, {"found": big}, "made new field 9999999999"), (NoLayings, {"found": big}, "made new blocks 2 9999999999"),
            (NoThings, {"found": big}, "made new packed 9999999999"), (NoBudget, {"found": big}, "run 4 9999999999"),
            (NoLine, {"found": big}, "lines one 9999999999 4 10"), (NoKeep, {"found": big}, "table 8 9999999999 10"),
            (NoThings, {"found": big}, "place one n 9999999999"), (NoInput, {"name": "a"}, "run 4 10 a=9999999999"),
            (Beyond, {"found": big}, "thing rows.9999999999=1"), (Beyond, {"found": big}, "thing what:9999999999"),
            (NoDesk, {"line": "show 9999999999"}, "show 9999999999"), (NoDesk, {"line": "run 9999999999 1"}, "run 9999999999 1"),
        ):
            refused_at(self, kind, fields, desk.say, line)
        self.assertEqual(desk.say("turn one two 9999999999 0"), "outs fault budget 0 done 0 many 3 moved 0")
        self.assertEqual(desk.say("turn one two 9999999999 1")[-7:], "moved 3")
        self.assertEqual(desk.say("thing n=9999999999"), "thing 3")
        self.assertIn("n=%d" % (big % 256 ** 3), desk.say("show 3").split(" "))

    def test_names(self):
        desk = full()
        before = state(desk)
        for word in ("One", "toolong", "shape", "tag", "o1", "1", "-", "/"):
            self.no_desk(
                desk, "laying %s " % word + one_row(by_field(FIGURES, 2)), "made %s field 2" % word, "cells %s 10" % word, "places %s 10" % word,
                "lines %s 8 4 10" % word, "turn %s two 1 10" % word, "turn one %s 1 10" % word, "place %s n 0" % word,
                "leaf %s what.circ.r 0" % word, "paper " + word, "open %s mid mx my" % word, "open circ %s mx my" % word,
                "open circ mid %s my" % word, "open circ mid mx " + word, "run 4 10 %s=1" % word)
        self.assertEqual(state(desk), before)

    def test_most_from_1_to_64(self):
        desk = full()
        self.no_desk(desk, "run 0 10", "run 65 10", "looks 0 10", "looks 65 10")
        for line in ("run 3 10", "run 64 10", "looks 3 10", "looks 64 10"):
            desk.say(line)

    def test_inputs(self):
        desk = full()
        self.no_desk(desk, "run 4 10 a", "run 4 10 a=", "run 4 10 =1", "run 4 10 a=1 a=1", "run 4 10 a=1 k=2 a=3", "run 4 10 a=b=1",
                     "run 4 10 a==1", "run 4 10 a:1", "run 4 10 =", "cells one 10 a=1 a=2", "looks 4 10 a=1 a=2", "places one 10 a=1 a=2",
                     "lines one 8 4 10 a=1 a=2", "table 8 4 10 a=1 a=2", "turn one two 1 10 a=1 a=2")
        for line in ("run 4 10", "cells one 10", "looks 4 10", "places one 10", "lines one 8 4 10", "table 8 4 10", "turn one two 1 10"):
            refused_at(self, NoInput, {"name": "zz"}, desk.say, line + " a=1 zz=1")
            refused_at(self, NoInput, {"name": "a"}, desk.say, line + " a=4294967296 k=1")
            self.assertEqual(desk.say(line + " a=4294967295"), desk.say(line + " a=4294967295"))

    def test_without_shapes(self):
        self.no_desk(Desk(), *self.GOOD)
        desk = Desk()
        refused_at(self, NoShapes, {"line": 0}, desk.say, "shapes x num 1")
        self.no_desk(desk, *self.GOOD)

    def test_without_a_program(self):
        desk = desk_of("shapes " + one_row(DRAWING), "made one thing 4 8", "made two packed 4", "thing")
        for line in self.GOOD:
            if line.split(" ")[0] in self.RUNS:
                self.no_desk(desk, line)
            else:
                copy.deepcopy(desk).say(line)
        refused_at(self, NoProgram, {"line": 0}, desk.say, "program nothing")
        self.no_desk(desk, "run 4 10", "table 8 4 10")

    def test_without_layings(self):
        desk = desk_of("shapes " + one_row(DRAWING), "program out a", "thing")
        self.no_desk(desk, "cells one 10", "places one 10", "lines one 8 4 10", "turn one one 1 10", "place one n 0", "leaf one n 0", "paper one")
        refused_at(self, NoLayings, {"found": []}, desk.say, "table 8 4 10")
        refused_at(self, NoLayings, {"found": []}, desk.say, "table 0 0 9999 zz=1")
        desk.say("made one thing 4 1")
        self.no_desk(desk, "cells two 10", "turn one two 1 10", "turn two one 1 10", "paper on", "paper onee")

    def test_no_desk_ahead_of_all_else(self):
        desk = full()
        self.no_desk(desk, "cells new 9999 zz=1", "turn new one 1 9999", "turn one new 1 9999", "lines new 0 0 9999", "place new zz 99",
                     "leaf new zz 99", "run 65 9999 zz=1", "run 4 9999 zz=1 a", "open zz zz Zz", "thing zz=1 n", "thing n=1 what", "show 99")
        empty = desk_of("shapes shape a / x num 1")
        self.no_desk(empty, "run 4 9999 zz=1", "table 0 0 9999", "turn one one 1 1")

    def test_two_desks_have_nothing_in_common(self):
        one, other = full(), full()
        before = state(other)
        for line in self.GOOD + ["shapes shape a / x num 1"]:
            one.say(line)
            if line == "clear":
                one.say("thing n=5")
        self.assertEqual(state(other), before)

    def test_what_is_kept_is_changed_by_some_lines_alone(self):
        desk = full()
        before = state(desk)
        for line in self.GOOD:
            if line.split(" ")[0] in self.RUNS + ("show", "place", "leaf", "paper"):
                self.assertEqual(desk.say(line), desk.say(line))
        self.assertEqual(state(desk), before)


class ShapesProgramsThings(unittest.TestCase):

    def test_shapes(self):
        desk = Desk()
        self.assertEqual(desk.say("shapes shape a / x num 1"), "shape a size 1 units 1")
        self.assertEqual(desk.say("shapes " + one_row(DRAWING)), "shape fig size 26 units 12")
        self.assertEqual(desk.say("shapes " + one_row(PICKS)), "shape e size 17 units 8")

    def test_shapes_told_again(self):
        desk = full()
        self.assertEqual(desk.say("shapes " + one_row(DRAWING)), "shape fig size 26 units 12")
        self.assertEqual(desk.say("clear"), "cleared 0")
        for line in ("run 4 10", "paper one", "show 0", "table 8 4 10"):
            refused(self, NoDesk, {"line": line}, desk.say, line)
        desk.say("program " + one_row(PROGRAM))
        refused_at(self, NoLayings, {"found": []}, desk.say, "table 8 4 10")
        self.assertEqual(desk.say("thing"), "thing 0")

    def test_shapes_that_are_refused(self):
        desk = full()
        before = state(desk)
        for kind, fields, text in (
            (NoShapes, {"line": 0}, "/"), (NoShapes, {"line": 0}, "x num 1"), (NoShapes, {"line": 1}, "shape a"), (NoShapes, {"line": 0}, "shape a /"),
            (NoShapes, {"line": 1}, "shape a / / x num 1"), (NoShapes, {"line": 1}, "shape a / x num 1 /"), (NoShapes, {"line": 0}, "/ shape a / x num 1"),
            (NoShapes, {"line": 0}, "shape a/x num 1"), (NamedTwice, {"line": 2, "name": "x"}, "shape a / x num 1 / x num 1"),
            (NamedTwice, {"line": 2, "name": "a"}, "shape a / x num 1 / shape a"), (UnknownShape, {"line": 1, "name": "b"}, "shape a / x b"),
            (TooMuch, {"line": 7}, "shape a / " + " / ".join("%s num 1" % name for name in "abcdefg")),
        ):
            refused_at(self, kind, fields, desk.say, "shapes " + text)
        self.assertEqual(state(desk), before)

    def test_programs(self):
        desk = full()
        self.assertEqual(desk.say("program out a"), "lines 1 names 1")
        self.assertEqual(desk.say("program " + one_row(PROGRAM)), "lines 5 names 3")
        self.assertEqual(desk.say("program a = 5 / each i / end"), "lines 3 names 2")
        self.assertEqual(desk.say("program " + " / ".join(["out a"] * 60)), "lines 60 names 1")
        self.assertEqual(desk.say("run 4 10"), "outs 0 0 0 0 0 0 0 0 0 0 fault budget 10 done 10 many 3")

    def test_programs_that_are_refused(self):
        desk = full()
        before = state(desk)
        for kind, fields, text in (
            (NoProgram, {"line": 0}, "/"), (NoProgram, {"line": 1}, "out a / / out a"), (NoProgram, {"line": 1}, "each i"),
            (NoProgram, {"line": 0}, "out"), (WrongPath, {"line": 0, "path": "zz"}, "a = look i zz"),
            (WrongPath, {"line": 1, "path": "what"}, "out a / a = look i what"), (TooMuch, {"line": 60}, " / ".join(["out a"] * 61)),
            (TooMuch, {"line": 12}, " / ".join("out %s" % name for name in "abcdefghijklm")), (NoProgram, {"line": 0}, "/ out a"),
        ):
            refused_at(self, kind, fields, desk.say, "program " + text)
        self.assertEqual(state(desk), before)

    def test_things(self):
        desk = desk_of("shapes " + one_row(DRAWING))
        self.assertEqual(desk.say("thing"), "thing 0")
        self.assertEqual(desk.say(THING), "thing 1")
        self.assertEqual(desk.say("thing"), "thing 2")
        blanks = ("what.tag=0 what.line.from.x=0 what.line.from.y=0 what.line.to.x=0 what.line.to.y=0 rows.0=0 rows.1=0 rows.2=0 "
                  "dots.0.x=0 dots.0.y=0 dots.1.x=0 dots.1.y=0 n=0 dot.x=0 dot.y=0")
        self.assertEqual((desk.say("show 0"), desk.say("show 2")), (blanks, blanks))
        self.assertEqual(desk.say("show 1"), "what.tag=1 what.circ.mid.x=300 what.circ.mid.y=0 what.circ.r=70000 rows.0=0 rows.1=0 rows.2=5 "
                                             "dots.0.x=0 dots.0.y=0 dots.1.x=0 dots.1.y=0 n=9 dot.x=1 dot.y=0")

    def test_set_by_set(self):
        desk = desk_of("shapes " + one_row(DRAWING))
        desk.say("thing what.line.from.x=5 n=1 what:0 n=2")
        self.assertEqual(desk.say("show 0").split(" ")[:2], ["what.tag=0", "what.line.from.x=0"])
        self.assertIn("n=2", desk.say("show 0").split(" "))
        refused_at(self, Other, {"found": "line"}, desk.say, "thing what:1 what.line.from.x=5")
        refused_at(self, Other, {"found": "circ"}, desk.say, "thing what.circ.r=5 what:1")
        self.assertEqual(desk.say("clear"), "cleared 1")

    def test_sets_that_are_refused(self):
        desk = full()
        before = state(desk)
        for kind, fields, sets in (
            (NoPath, {"path": ("",)}, "=5"), (NoPath, {"path": ("",)}, ":5"), (NoPath, {"path": ("n", "")}, "n.=5"), (NoPath, {"path": ("", "n")}, ".n=5"),
            (NoPath, {"path": ("zz",)}, "zz=5"), (NoPath, {"path": ("what",)}, "what=1"), (NoPath, {"path": ("n",)}, "n:1"),
            (NoPath, {"path": (0,)}, "0=1"), (NoPath, {"path": ("rows", "00")}, "rows.00=1"), (NoPath, {"path": ("rows", "12345678901")}, "rows.12345678901=1"),
            (NoPath, {"path": ("rows", "k")}, "rows.k=1"), (NoPath, {"path": ("what", "tag")}, "what.tag=1"), (Beyond, {"found": 3}, "rows.3=1"),
            (NoPath, {"path": ("rows", "-1")}, "rows.-1=1"), (Beyond, {"found": 2}, "what:2"), (Other, {"found": "circ"}, "what.circ.r=1"),
            (Beyond, {"found": 2}, "n=1 dots.2.x=5 zz=1"), (NoPath, {"path": ("what", 0)}, "what.0=1"),
        ):
            refused_at(self, kind, fields, desk.say, "thing " + sets)
        self.assertEqual(state(desk), before)

    def test_words_with_no_sign_or_both(self):
        desk = full()
        for sets in ("n", "n=", "n:", "=", ":", "n=1:2", "what:1=2", "n=:1", "n:=1", "n==1", "n=1=1", "n=x", "what:x", "n=1 n", "n n=1", "n=1,2"):
            line = "thing " + sets
            refused(self, NoDesk, {"line": line}, desk.say, line)
        for number in range(33, 127):
            if chr(number) not in "=:":
                line = "thing n%s5" % chr(number)
                refused(self, NoDesk, {"line": line}, desk.say, line)

    def test_sixty_four_things_and_one_more(self):
        desk = small("program out a")
        for number in range(64):
            self.assertEqual(desk.say("thing x=%d" % number), "thing %d" % number)
        for line in ("thing", "thing x=1", "thing zz=1", "thing x=1 y:0"):
            refused(self, NoDesk, {"line": line}, desk.say, line)
        self.assertEqual((desk.say("show 63"), desk.say("run 64 9")), ("x=63 y=0", "outs 0 fault none done 1 many 64"))
        self.assertEqual((desk.say("clear"), desk.say("clear"), desk.say("thing")), ("cleared 64", "cleared 0", "thing 0"))

    def test_show(self):
        desk = small("thing x=513 y=7", "thing")
        self.assertEqual((desk.say("show 0"), desk.say("show 1")), ("x=513 y=7", "x=0 y=0"))
        for line in ("show 2", "show 64", "show 9999999999"):
            refused(self, NoDesk, {"line": line}, desk.say, line)
        desk.say("clear")
        refused(self, NoDesk, {"line": "show 0"}, desk.say, "show 0")

    def test_the_same_line_twice(self):
        desk = small("thing x=1", "thing x=1")
        self.assertEqual((desk.say("show 0"), desk.say("show 1"), desk.say("clear")), ("x=1 y=0", "x=1 y=0", "cleared 2"))


class LayingsKept(unittest.TestCase):

    def test_a_laying_of_a_text(self):
        desk = small()
        self.assertEqual(desk.say("laying one room 12 things 3 / part 0 1 4 : y x"), "room 12 things 3 parts 1")
        self.assertEqual(desk.say("laying two room 20 things 3 / part 0 1 4 : y / part 12 3 1 : x"), "room 20 things 3 parts 2")
        self.assertEqual((desk.say("place one x 1"), desk.say("place two x 1")), ("5.0.16", "14.0.16"))

    def test_those_that_are_made(self):
        desk = desk_of("shapes " + one_row(PICKS))
        shapes = read_shapes(PICKS)
        for line, text in (
            ("made one thing 3 8", by_thing(shapes, 3, 8)), ("made one thing 3 1", by_thing(shapes, 3)), ("made one field 5", by_field(shapes, 5)),
            ("made one blocks 5 2", by_blocks(shapes, 5, 2)), ("made one packed 64", packed(shapes, 64)),
        ):
            self.assertEqual(desk.say(line), one_row(text))
            laying = read_laying(shapes, text)
            self.assertEqual(desk.say("place one v 2"), "%d.%d.%d" % laying.place("v", 2))
            self.assertEqual(desk.say("place one v.tag 2"), "%d.%d.%d" % laying.place("v.tag", 2))

    def test_what_is_refused(self):
        desk = full()
        before = state(desk)
        good = one_row(by_thing(FIGURES, 4))
        for kind, fields, line in (
            (NoLaying, {"line": 0}, "laying one room 0 things 1"), (NoLaying, {"line": 0}, "laying one /"),
            (NoLaying, {"line": 1}, "laying one room 1 things 1 / / part 0 1 1 : n"),
            (UnknownUnit, {"line": 1, "unit": "zz"}, "laying one room 9 things 1 / part 0 1 1 : n zz"),
            (LaidTwice, {"line": 1, "unit": "n"}, "laying one room 9 things 1 / part 0 1 1 : n n"),
            (Lacking, {"unit": "what.tag"}, "laying one room 9 things 1 / part 0 1 1 : n"),
            (Past, {"unit": "dot.y", "thing": 3, "cell": 103}, "laying one " + good.replace("room 104", "room 103")),
            (Meets, {"unit": "dot.y", "thing": 0, "second": "dot.x", "another": 0},
             "laying one " + one_row(by_thing(FIGURES, 1)).replace(" dot.y", " / part 24 1 1 : dot.y")),
            (NoThings, {"found": 0}, "made one thing 0 0"), (NoThings, {"found": 65}, "made one thing 65 1"), (NoLayings, {"found": 0}, "made one thing 2 0"),
            (NoLayings, {"found": 65}, "made one thing 2 65"), (NoThings, {"found": 65}, "made one field 65"), (NoThings, {"found": 0}, "made one blocks 0 0"),
            (NoLayings, {"found": 0}, "made one blocks 2 0"), (NoLayings, {"found": 65}, "made one blocks 2 65"), (NoThings, {"found": 0}, "made one packed 0"),
        ):
            refused_at(self, kind, fields, desk.say, line)
        self.assertEqual(state(desk), before)

    def test_a_name_told_anew_stays_at_its_place(self):
        desk = small("program a = look i x", "thing", "made one thing 4 1", "made two field 4", "made six packed 4")
        self.assertEqual([word for word in desk.say("table 8 4 10").split(" ") if word in ("one", "two", "six")], ["one", "two", "six", "one"])
        desk.say("laying one room 99 things 2 / part 60 1 1 : x / part 80 1 1 : y")
        self.assertEqual([word for word in desk.say("table 8 4 10").split(" ") if word in ("one", "two", "six")], ["one", "two", "six", "one"])
        self.assertEqual(desk.say("place one x 0"), "60.0.16")
        desk.say("made two thing 1 64")
        self.assertEqual(desk.say("table 1 4 10"), "one touched 2 fetched 2 two touched 2 fetched 2 six touched 2 fetched 2 least one")

    def test_places_and_leaves(self):
        desk = full()
        laying = read_laying(FIGURES, packed(FIGURES, 4))
        for unit, width, sort in FIGURES.main().units():
            for thing in range(4):
                self.assertEqual(desk.say("place two %s %d" % (unit, thing)), "%d.%d.%d" % laying.place(unit, thing))
        for path, width, unit, offset, holds in FIGURES.main().leaves():
            self.assertEqual(desk.say("leaf two %s 3" % path), "%d.%d.%d" % laying.leaf_place(path, 3))
        for kind, fields, line in (
            (UnknownUnit, {"line": -1, "unit": "zz"}, "place one zz 99"), (UnknownUnit, {"line": -1, "unit": "dot"}, "place one dot 0"),
            (NoThings, {"found": 4}, "place one n 4"), (NoPath, {"path": "what"}, "leaf one what 99"), (NoPath, {"path": "what.tag"}, "leaf one what.tag 0"),
            (NoThings, {"found": 4}, "leaf one n 4"), (UnknownUnit, {"line": -1, "unit": "/"}, "place one / 0"),
        ):
            refused_at(self, kind, fields, desk.say, line)

    def test_papers(self):
        desk = small("laying one room 20 things 3 / part 1 2 8 : x y", "made two thing 3 1")
        self.assertEqual(desk.say("paper one"), "has 9 tags 0 pad 4 spare 3 free 4")
        self.assertEqual(desk.say("paper two"), "has 9 tags 0 pad 0 spare 0 free 0")
        desk = desk_of("shapes " + one_row(PICKS), "made one packed 5")
        self.assertEqual(desk.say("paper one"), "has 70 tags 4 pad 0 spare 0 free 0")


class Runs(unittest.TestCase):

    def test_run_and_cells(self):
        desk = small("program each i / a = look i x / out a / end", "thing x=5", "thing x=70000 y=3", "made one thing 2 1")
        for line in ("run 2", "run 64", "cells one"):
            self.assertEqual(desk.say(line + " 99"), "outs 5 4464 fault none done 7 many 2")
            self.assertEqual(desk.say(line + " 3"), "outs 5 fault budget 0 done 3 many 2")
            self.assertEqual(desk.say(line + " 0"), "outs fault budget 0 done 0 many 2")
            self.assertEqual(desk.say(line + " 99 i=7"), "outs 5 4464 fault none done 7 many 2")

    def test_faults_and_how_many_there_are(self):
        desk = small("program a = put / out a / store a x k / a = put", "made one thing 2 1", "thing")
        self.assertEqual(desk.say("run 2 9"), "outs 1 fault full 3 done 4 many 2")
        self.assertEqual(desk.say("run 3 9 k=1"), "outs 1 fault none done 4 many 3")
        self.assertEqual(desk.say("cells one 9"), "outs 1 fault full 3 done 4 many 2")
        self.assertEqual((desk.say("show 0"), desk.say("clear")), ("x=0 y=0", "cleared 1"))
        desk.say("program take i / a = look i x")
        desk.say("thing")
        self.assertEqual(desk.say("run 1 9"), "outs fault beyond 1 done 2 many 0")
        desk = desk_of("shapes " + one_row(PICKS), "program a = look i v.b.q", "thing")
        self.assertEqual(desk.say("run 1 9"), "outs fault other 0 done 1 many 1")

    def test_looks(self):
        desk = small("program a = look i x / store i y k / copy i i / a = put / take i", "thing x=5", "made one thing 2 1")
        self.assertEqual(desk.say("looks 2 9 k=257"), "look 0 x 5 / store 0 y 1 / copy 0 - 0 / put 1 - 0 / take 0 - 1")
        self.assertEqual(desk.say("looks 2 1"), "look 0 x 5")
        self.assertEqual(desk.say("looks 2 0"), "none")
        self.assertEqual(desk.say("places one 9"), "0.0.16 / 2.0.8 / 0.0.16 0.0.16 2.0.8 2.0.8 / 3.0.16 5.0.8 / 3.0.16 0.0.16 5.0.8 2.0.8")
        self.assertEqual(desk.say("places one 0"), "none")
        desk.say("program take i")
        self.assertEqual((desk.say("places one 9"), desk.say("looks 1 9")), ("-", "take 0 - 0"))
        desk = desk_of("shapes " + one_row(PICKS), "program choose i v k / a = which i w.1.r", "thing", "made one packed 2")
        self.assertEqual(desk.say("looks 2 9 k=1"), "choose 0 v 1 / which 0 w.1.r 0")
        self.assertEqual(desk.say("places one 9"), "0.0.64 28.0.2 / 28.4.2")

    def test_lines_and_tables(self):
        desk = small("program each i / a = look i x / end", "thing", "thing", "thing", "thing", "made one thing 4 1", "made two field 4")
        self.assertEqual(desk.say("lines one 4 2 99"), "touched 5 fetched 3")
        self.assertEqual(desk.say("lines two 4 2 99"), "touched 4 fetched 2")
        self.assertEqual(desk.say("table 4 2 99"), "one touched 5 fetched 3 two touched 4 fetched 2 least two")
        self.assertEqual(desk.say("table 64 1 99"), "one touched 4 fetched 1 two touched 4 fetched 1 least one")
        self.assertEqual(desk.say("lines one 4 2 0"), "touched 0 fetched 0")
        desk = small("program a = look i x", "thing", "made one thing 4 1")
        self.assertEqual(desk.say("table 4 2 99"), "one touched 1 fetched 1 least one")

    def test_turns(self):
        desk = small("program each i / a = look i x / out a / end", "thing x=5", "thing x=7", "made one thing 3 1", "made two field 3")
        self.assertEqual(desk.say("turn one two 0 99"), "outs 5 7 fault none done 7 many 2 moved 0")
        self.assertEqual(desk.say("turn one two 1 99"), "outs 5 7 fault none done 7 many 2 moved 1")
        self.assertEqual(desk.say("turn one two 0,0,1,1,1 99"), "outs 5 7 fault none done 7 many 2 moved 2")
        self.assertEqual(desk.say("turn one two 0,0,1,1,1 3"), "outs 5 fault budget 0 done 3 many 2 moved 1")
        self.assertEqual(desk.say("turn one one 9 99"), "outs 5 7 fault none done 7 many 2 moved 2")
        self.assertEqual(desk.say("turn two one 1,1 0"), "outs fault budget 0 done 0 many 2 moved 0")

    def test_refusals_of_runs(self):
        desk = small("program each i / a = look i x / end", "thing x=1", "thing x=2", "thing x=3", "made one thing 3 1", "made low thing 2 1")
        things = [{"x": number, "y": 0} for number in (1, 2, 3)]
        laying = read_laying(read_shapes("shape a\nx num 2\ny num 1"), by_thing(read_shapes("shape a\nx num 2\ny num 1"), 2))
        for line in ("run 2 9999 zz=1", "cells low 9999 zz=1", "looks 2 9999 zz=1", "places low 9999 zz=1", "lines low 0 0 9999 zz=1"):
            refused_at(self, NoThings, {"found": things}, desk.say, line)
        refused_at(self, NoThings, {"found": things}, desk.say, "turn low low 1 9999 zz=1")
        error = refusal(self, NoTurn, desk.say, "turn one low 1 9999 zz=1")
        self.assertIsInstance(error.found, Laying)
        self.assertEqual((error.found.text(), error.found.things), (laying.text(), 2))
        self.assertEqual(refusal(self, NoTurn, desk.say, "turn low one 1 9").found.things, 3)
        for line in ("run 3 9999 zz=1", "cells one 9999 zz=1", "looks 3 9999 zz=1", "places one 9999 zz=1", "lines one 0 0 9999 zz=1", "turn one one 1 9999 zz=1",
                     "table 0 0 9999 zz=1"):
            refused_at(self, NoInput, {"name": "zz"}, desk.say, line)
            refused_at(self, NoBudget, {"found": 9999}, desk.say, line[:-5])
        for line in ("lines one 0 0 9", "table 0 0 9"):
            refused_at(self, NoLine, {"found": 0}, desk.say, line)
        refused_at(self, NoLine, {"found": 65}, desk.say, "lines one 65 33 9")
        for line in ("lines one 1 0 9", "table 1 0 9"):
            refused_at(self, NoKeep, {"found": 0}, desk.say, line)
        refused_at(self, NoKeep, {"found": 33}, desk.say, "lines one 64 33 9")
        refused_at(self, NoThings, {"found": things}, desk.say, "table 1 1 9")
        self.assertEqual(desk.say("lines one 64 32 5000"), "touched 3 fetched 1")

    def test_forty_one_layings(self):
        desk = small("program a = look i x", "thing")
        names = ["%s%s" % (one, other) for one in "abcdefg" for other in "uvwxyz"]
        for name in names[:40]:
            desk.say("made %s thing 1 1" % name)
        self.assertTrue(desk.say("table 1 1 9").endswith("least au"))
        desk.say("made %s thing 1 1" % names[40])
        self.assertEqual(len(refusal(self, NoLayings, desk.say, "table 0 0 9999").found), 41)

    def test_what_a_refusal_has_is_no_way_in(self):
        desk = small("program out a", "thing x=1", "thing x=2", "made one thing 1 1")
        for line in ("run 1 9", "cells one 9", "looks 1 9", "places one 9", "lines one 8 4 9", "table 8 4 9", "turn one one 1 9"):
            error = refusal(self, NoThings, desk.say, line)
            error.found[0]["x"] = 9
            error.found.clear()
            self.assertEqual((desk.say("show 0"), desk.say("show 1")), ("x=1 y=0", "x=2 y=0"))
        self.assertEqual(desk.say("clear"), "cleared 2")

    def test_runs_leave_the_things(self):
        desk = small("program each i / store i x k / end / a = put / take k", "thing", "thing", "made one thing 4 1", "made two field 4")
        for line in ("run 4 99 k=1", "cells one 99 k=1", "looks 4 99 k=1", "places one 99 k=1", "lines one 8 4 99 k=1", "table 8 4 99 k=1",
                     "turn one two 1,1 99 k=1"):
            desk.say(line)
            self.assertEqual((desk.say("show 0"), desk.say("show 1")), ("x=0 y=0", "x=0 y=0"))
        self.assertEqual(desk.say("clear"), "cleared 2")


class Opens(unittest.TestCase):

    def test_all_that_is_kept_is_led_onward(self):
        desk = full()
        runs = ["run 64 300", "places one 300", "places two 300", "table 8 4 300", "paper one", "paper two", "turn one two 1,1 300"]
        before = [desk.say(line) for line in runs]
        looks, shown = desk.say("looks 64 300"), desk.say("show 0")
        self.assertEqual(desk.say("open circ mid mx my"), one_row(DRAWING.replace("mid dot", "mx num 2\nmy num 1")))
        self.assertEqual(desk.say("show 0"), shown.replace("mid.x", "mx").replace("mid.y", "my"))
        self.assertEqual([desk.say(line) for line in runs], before)
        self.assertEqual(desk.say("looks 64 300"), looks)
        self.assertEqual(desk.say("open fig dot x y"), one_row(DRAWING.replace("mid dot", "mx num 2\nmy num 1").replace(
            "\ndot dot", "\nx num 2\ny num 1")))
        self.assertEqual([desk.say(line) for line in runs], before)
        self.assertEqual(desk.say("place two x 0"), desk.say("place two x 0"))
        refused_at(self, UnknownUnit, {"line": -1, "unit": "dot.x"}, desk.say, "place two dot.x 0")
        self.assertEqual(desk.say("thing x=5 what:1 what.circ.mx=4"), "thing 3")
        self.assertEqual(desk.say("program a = look i x / out a"), "lines 2 names 2")
        self.assertEqual(desk.say("made new field 2").count(" x y"), 1)

    def test_paths_of_the_program(self):
        desk = desk_of("shapes " + one_row(DRAWING), "program a = look i dot.x / store i dot.y a", "thing dot.x=300", "made one thing 2 1")
        self.assertEqual(desk.say("looks 2 9"), "look 0 dot.x 300 / store 0 dot.y 44")
        places = desk.say("places one 9")
        desk.say("open fig dot dot dy")
        self.assertEqual(desk.say("looks 2 9"), "look 0 dot 300 / store 0 dy 44")
        self.assertEqual(desk.say("places one 9"), places)

    def test_where_shapes_alone_are_kept(self):
        desk = desk_of("shapes " + one_row(DRAWING))
        self.assertEqual(desk.say("open fig dot dx dy"), one_row(DRAWING.replace("\ndot dot", "\ndx num 2\ndy num 1")))
        refused(self, NoDesk, {"line": "run 4 9"}, desk.say, "run 4 9")
        self.assertEqual((desk.say("thing dx=1"), desk.say("program a = look i dx")), ("thing 0", "lines 1 names 2"))

    def test_where_layings_alone_are_kept(self):
        desk = desk_of("shapes " + one_row(DRAWING), "made one thing 2 1", "made two packed 2")
        before = desk.say("place one dot.x 1"), desk.say("place two what.tag 1")
        desk.say("open fig dot dx dy")
        self.assertEqual((desk.say("place one dx 1"), desk.say("place two what.tag 1")), before)
        refused_at(self, NoLayings, {"found": []}, desk_of("shapes shape a / x num 1", "program out a").say, "table 8 4 9")
        desk.say("program a = look i dx")
        self.assertEqual(desk.say("table 8 4 9"), "one touched 0 fetched 0 two touched 0 fetched 0 least one")

    def test_where_a_program_alone_or_things_alone_are_kept(self):
        desk = desk_of("shapes " + one_row(DRAWING), "program a = look i dot.x / out a")
        desk.say("open fig dot dx dy")
        self.assertEqual(desk.say("run 4 9"), "outs fault beyond 0 done 1 many 0")
        self.assertEqual((desk.say("thing dx=3"), desk.say("run 4 9")), ("thing 0", "outs 3 fault none done 2 many 1"))
        desk = desk_of("shapes " + one_row(DRAWING), "thing dot.x=3")
        desk.say("open fig dot dx dy")
        self.assertEqual(desk.say("show 0").split(" ")[-2:], ["dx=3", "dy=0"])

    def test_what_is_refused(self):
        desk = full()
        before = state(desk)
        for kind, found, line in (
            (NoOpen, "zz", "open zz dot dx dy"), (NoOpen, "zz", "open fig zz dx dy"), (NoOpen, "n", "open fig n dx"), (NoOpen, "dots", "open fig dots dx dy"),
            (NoOpen, ["dx"], "open fig dot dx"), (NoOpen, ["dx", "dy", "dz"], "open fig dot dx dy dz"), (NoOpen, ["dx", "dx"], "open fig dot dx dx"),
            (NoOpen, ["dx", "n"], "open fig dot dx n"), (NoOpen, "fig", "open fig fig a"),
        ):
            refused_at(self, kind, {"found": found}, desk.say, line)
        self.assertEqual(state(desk), before)
        wide = desk_of("shapes shape i / x num 1 / y num 1 / shape o / f i / " + " / ".join("%s num 1" % name for name in "abcde"), "thing f.x=5")
        refused_at(self, TooMuch, {"line": -1}, wide.say, "open o f x y")
        self.assertEqual(wide.say("show 0"), "f.x=5 f.y=0 a=0 b=0 c=0 d=0 e=0")

    def test_the_same_line_twice(self):
        desk = desk_of("shapes " + one_row(DRAWING))
        desk.say("open fig dot dx dy")
        refused_at(self, NoOpen, {"found": "dot"}, desk.say, "open fig dot dx dy")


def shown(told, store):
    """What a desk shows of a run."""
    words = ["outs"] + [str(word) for word in told.outs] + ["fault"]
    words += ["none"] if told.fault is None else [told.fault[0], str(told.fault[1])]
    return " ".join(words + ["done", str(told.done), "many", str(store.many())])


class Drawn(unittest.TestCase):

    def test_answers_are_what_the_functions_tell(self):
        for seed in range(60):
            dice = random.Random(seed)
            shapes = read_shapes(some_text(seed))
            main = shapes.main()
            program = some_program(main, dice)
            records = [some_record(main, dice) for number in range(dice.randint(0, 4))]
            texts = {"one": some_laying(main, dice, 5), "two": some_laying(main, dice, 5), "big": packed(shapes, 5)}
            desk = Desk()
            self.assertEqual(desk.say("shapes " + one_row(shapes.text())), "shape %s size %d units %d" % (main.name, main.size(), len(main.units())))
            self.assertEqual(desk.say("program " + one_row(program)),
                             "lines %d names %d" % (len(program.split("\n")), len(read_program(shapes, program).names())))
            for number, record in enumerate(records):
                sets = [path.replace(".tag", "") + ":" + str(told) if path.endswith(".tag") else "%s=%d" % (path, told)
                        for path, told in flat(main, record)]
                self.assertEqual(desk.say(" ".join(["thing"] + sets)), "thing %d" % number)
            for name, text in texts.items():
                laying = read_laying(shapes, text)
                self.assertEqual(desk.say("laying %s %s" % (name, one_row(text))), "room %d things 5 parts %d" % (laying.room, len(laying.parts)))
            self.same(desk, shapes, program, records, texts, dice)
            for opening in openings(shapes)[:2]:
                other = copy.deepcopy(desk)
                self.assertEqual(other.say(" ".join(["open", opening.name, opening.field] + list(opening.given))), one_row(opening.after.text()))
                self.same(other, opening.after, opening.program_onward(program), [opening.record_onward(record) for record in records],
                          {name: opening.laying_onward(text) for name, text in texts.items()}, dice)

    def same(self, desk, shapes, program, records, texts, dice):
        """The desk answers what the functions tell of these shapes, program, records and layings."""
        program = read_program(shapes, program)
        layings = {name: read_laying(shapes, text) for name, text in texts.items()}
        budget = dice.choice([0, 7, 90, 300])
        inputs = {name: dice.choice([0, 1, 3]) for name in program.names() if dice.random() < 0.3}
        puts = "".join(" %s=%d" % pair for pair in inputs.items())
        for number, record in enumerate(records):
            self.assertEqual(desk.say("show %d" % number), " ".join("%s=%d" % row for row in flat(shapes.main(), record)))
        store = Plain(shapes, 6, records)
        self.assertEqual(desk.say("run 6 %d%s" % (budget, puts)), shown(run(program, store, inputs, budget), store))
        looks = ["%s %d %s %d" % (word, thing, path or "-", number) for word, thing, path, number in store.looks]
        self.assertEqual(desk.say("looks 6 %d%s" % (budget, puts)), " / ".join(looks) or "none")
        for name, laying in layings.items():
            cells = Cells(laying, records)
            self.assertEqual(desk.say("cells %s %d%s" % (name, budget, puts)), shown(run(program, cells, inputs, budget), cells))
            places = [" ".join("%d.%d.%d" % place for place in look) or "-" for look in cells.places]
            self.assertEqual(desk.say("places %s %d%s" % (name, budget, puts)), " / ".join(places) or "none")
            rows = table(program, [laying], records, inputs, budget, 8, 3)
            self.assertEqual(desk.say("lines %s 8 3 %d%s" % (name, budget, puts)), "touched %d fetched %d" % rows[0][1:])
            words = [row[0] for row in paper(laying)]
            self.assertEqual(desk.say("paper " + name), " ".join("%s %d" % (word, words.count(word)) for word in ("has", "tags", "pad", "spare", "free")))
        rows = table(program, list(layings.values()), records, inputs, budget, 4, 2)
        number = least(program, list(layings.values()), records, inputs, budget, 4, 2)
        wanted = ["%s touched %d fetched %d" % (list(layings)[at], touched, fetched) for at, touched, fetched in rows]
        self.assertEqual(desk.say("table 4 2 %d%s" % (budget, puts)), " ".join(wanted + ["least " + list(layings)[number]]))
        steps = [dice.choice([0, 1, 2]) for place in range(dice.choice([1, 3, 20]))]
        turned = Turning(layings["one"], layings["big"], records)
        told = run_turning(program, turned, inputs, budget, steps)
        self.assertEqual(desk.say("turn one big %s %d%s" % (",".join(map(str, steps)), budget, puts)),
                         shown(told, turned) + " moved %d" % len(turned.moved))

    def test_things_by_their_sets(self):
        desk = desk_of("shapes " + one_row(DRAWING), "thing n=5 rows.1=70000")
        record = stored(FIGURES.main(), stored(FIGURES.main(), blank(FIGURES.main()), ("n",), 5), ("rows", 1), 70000)
        self.assertEqual(desk.say("show 0"), " ".join("%s=%d" % row for row in flat(FIGURES.main(), record)))


if __name__ == "__main__":
    unittest.main()
