"""Programs: the rows, names and text that are told, and which line of a text is refused first, and how."""

import random
import unittest

from roomslaid.errors import NoProgram, TooMuch, WrongPath
from roomslaid.program import Choice, Loop, Program, Row, read_program
from roomslaid.shapetext import read_shapes
from tests.helper import DRAWING, ODD, PICKS, is_apart, refused_at, some_program, some_text

FIGURES = read_shapes(DRAWING)
PICKED = read_shapes(PICKS)
OWN_WORDS = ("shape", "num", "row", "pick", "tag", "room", "things", "part", "tags", "put", "take", "many", "look", "which",
             "store", "choose", "copy", "each", "span", "if", "else", "end", "out")
NO_NAMES = OWN_WORDS + ("", "A", "a1", "abcdefg", "a.b", "a,", "_", "1", "-", "aB")


def shown(row):
    """The row with all its fields, and those of the rows within, as a tuple."""
    if isinstance(row, Row):
        return ("row", row.line, row.deed, row.goal, row.reads, row.steps, row.number)
    if isinstance(row, Loop):
        return ("loop", row.line, row.last, row.deed, row.goal, row.reads, [shown(inner) for inner in row.rows])
    return ("choice", row.line, row.last, row.middle, row.reads, [shown(inner) for inner in row.rows],
            [shown(inner) for inner in row.others])


class Case(unittest.TestCase):

    def rows(self, *lines, shapes=FIGURES):
        program = read_program(shapes, "\n".join(lines))
        self.assertIsInstance(program, Program)
        self.assertEqual(program.text(), "\n".join(lines))
        self.assertIsInstance(program.rows, list)
        return [shown(row) for row in program.rows]

    def names(self, *lines, shapes=FIGURES):
        return read_program(shapes, "\n".join(lines)).names()

    def refused(self, kind, fields, *lines, shapes=FIGURES):
        refused_at(self, kind, fields, read_program, shapes, "\n".join(lines))

    def is_no_line(self, line):
        self.refused(NoProgram, {"line": 0}, line)
        self.refused(NoProgram, {"line": 1}, "a = 0", line)
        self.refused(NoProgram, {"line": 1}, "a = 0", line, "else")


class Lines(Case):

    def test_each_form_of_a_row(self):
        for line, row in (
            ("a = 7", ("number", "a", [], [], 7)),
            ("a = b", ("name", "a", ["b"], [], 0)),
            ("a = b + c", ("+", "a", ["b", "c"], [], 0)),
            ("a = b - c", ("-", "a", ["b", "c"], [], 0)),
            ("a = b * c", ("*", "a", ["b", "c"], [], 0)),
            ("a = b < c", ("<", "a", ["b", "c"], [], 0)),
            ("a = b = c", ("=", "a", ["b", "c"], [], 0)),
            ("a = b & c", ("&", "a", ["b", "c"], [], 0)),
            ("a = look i n", ("look", "a", ["i"], ["n"], 0)),
            ("store i n b", ("store", "", ["i", "b"], ["n"], 0)),
            ("a = which i what", ("which", "a", ["i"], ["what"], 0)),
            ("choose i what b", ("choose", "", ["i", "b"], ["what"], 0)),
            ("copy i j", ("copy", "", ["i", "j"], [], 0)),
            ("a = put", ("put", "a", [], [], 0)),
            ("take i", ("take", "", ["i"], [], 0)),
            ("a = many", ("many", "a", [], [], 0)),
            ("out a", ("out", "", ["a"], [], 0)),
        ):
            self.assertEqual(self.rows(line), [("row", 0) + row])
            self.assertEqual(self.rows("z = 1", line)[1], ("row", 1) + row)

    def test_one_name_at_several_places(self):
        for line, row in (
            ("a = a", ("name", "a", ["a"], [], 0)),
            ("a = a + a", ("+", "a", ["a", "a"], [], 0)),
            ("a = look a n", ("look", "a", ["a"], ["n"], 0)),
            ("store a n a", ("store", "", ["a", "a"], ["n"], 0)),
            ("copy a a", ("copy", "", ["a", "a"], [], 0)),
        ):
            self.assertEqual(self.rows(line), [("row", 0) + row])
            self.assertEqual(self.names(line), ["a"])

    def test_names_of_fields_and_shapes_may_be_names(self):
        self.assertEqual(self.rows("n = look what n"), [("row", 0, "look", "n", ["what"], ["n"], 0)])

    def test_numbers(self):
        for number in (0, 1, 9, 10, 255, 65536, 4294967295):
            self.assertEqual(self.rows("a = %d" % number), [("row", 0, "number", "a", [], [], number)])
        for word in ("00", "01", "-1", "+1", "4294967296", "9999999999", "10000000000", "00000000000", "1.0", "1a", "0x1", "1,"):
            self.is_no_line("a = " + word)

    def test_lines_without_their_form(self):
        for line in (
            " ", "a", "a =", "a = ", "a  = 1", "a = 1 ", " a = 1", "a = 1 1", "a=1", "= 1", "a == 1", "a + 1", "a 1", "1 = a",
            "a = b c", "a = b +", "a = b + ", "a = b + 1", "a = 1 + b", "a = 1 + 1", "a = b / c", "a = b > c", "a = b ** c",
            "a = b == c", "a = b + c d", "a = b + c + d", "a = b or c", "a = b < c ", "a = b  < c", "a = -b", "a = - b", "a = b +c",
            "look i n", "a = look", "a = look i", "a = look n", "a = look i n b", "a = look i  n", "a = look i n ", "a = look 0 n",
            "a = look i ", "look a i n", "store", "store i", "store i n", "store i n 1", "store i n b c", "a = store i n b",
            "store 0 n b", "store i  b", "which i what", "a = which", "a = which i", "a = which 0 what", "a = which i what b",
            "choose", "choose i", "choose i what", "choose i what 1", "choose i what b c", "a = choose i what b", "choose 0 what b",
            "copy", "copy i", "copy i j k", "copy i 1", "copy 0 j", "a = copy i j", "copy i  j", "put", "put a", "a = put b",
            "a = put 1", "take", "take i j", "take 0", "a = take i", "many", "a = many b", "many a", "out", "out a b", "out 1",
            "a = out b", "out  a", "each", "each i j", "each 0", "a = each i", "each i 0 1", "span", "span i", "span i b",
            "span i b c d", "span i 0 c", "span i b 1", "span 0 b c", "if", "if 0", "if a b", "if a = b", "a = if b", "else a",
            "end a", "else if a", "end ", " end", "else ", "Out a", "OUT a", "out\ta", "a = LOOK i n", "# a", "a = b & & c",
            "a = =", "= = =", "a = = b", "a = OP", "A = NUMBER", "store I PATH B", "i = tag", "a = b OP c",
        ):
            self.is_no_line(line)

    def test_words_that_are_no_names(self):
        for word in NO_NAMES:
            for line in ("%s = 7", "a = b + %s", "a = %s + c", "a = look %s n", "%s = look i n", "store %s n b", "store i n %s",
                         "%s = which i what", "a = which %s what", "choose %s what b", "choose i what %s", "copy %s j", "copy i %s",
                         "%s = put", "take %s", "%s = many", "out %s", "each %s", "span %s b c", "span i %s c", "span i b %s",
                         "if %s", "%s = b", "%s = b - c"):
                self.is_no_line(line % word)
            if word not in ("1", "put", "many"):
                self.is_no_line("a = %s" % word)

    def test_empty_lines(self):
        self.refused(NoProgram, {"line": 0}, "", "")
        self.refused(NoProgram, {"line": 1}, "a = 1", "")
        self.refused(NoProgram, {"line": 0}, "", "a = 1")
        self.refused(NoProgram, {"line": 1}, "a = 1", "", "b = 1")

    def test_the_program_without_rows(self):
        program = read_program(FIGURES, "")
        self.assertEqual((program.rows, program.names(), program.text()), ([], [], ""))

    def test_no_texts(self):
        for thing in ODD:
            if not isinstance(thing, str):
                refused_at(self, NoProgram, {"line": 0}, read_program, FIGURES, thing)


class Nesting(Case):

    def test_loops(self):
        self.assertEqual(self.rows("each i", "end"), [("loop", 0, 1, "each", "i", [], [])])
        self.assertEqual(self.rows("a = 1", "span i a b", "out i", "end", "out a"), [
            ("row", 0, "number", "a", [], [], 1),
            ("loop", 1, 3, "span", "i", ["a", "b"], [("row", 2, "out", "", ["i"], [], 0)]),
            ("row", 4, "out", "", ["a"], [], 0),
        ])
        self.assertEqual(self.rows("span i i i", "end"), [("loop", 0, 1, "span", "i", ["i", "i"], [])])

    def test_choices(self):
        self.assertEqual(self.rows("if a", "end"), [("choice", 0, 1, None, ["a"], [], [])])
        self.assertEqual(self.rows("if a", "else", "end"), [("choice", 0, 2, 1, ["a"], [], [])])
        self.assertEqual(self.rows("if a", "out a", "end"),
                         [("choice", 0, 2, None, ["a"], [("row", 1, "out", "", ["a"], [], 0)], [])])
        self.assertEqual(self.rows("if a", "else", "out a", "end"),
                         [("choice", 0, 3, 1, ["a"], [], [("row", 2, "out", "", ["a"], [], 0)])])
        self.assertEqual(self.rows("if a", "take a", "else", "out a", "out b", "end", "take b"), [
            ("choice", 0, 5, 2, ["a"], [("row", 1, "take", "", ["a"], [], 0)],
             [("row", 3, "out", "", ["a"], [], 0), ("row", 4, "out", "", ["b"], [], 0)]),
            ("row", 6, "take", "", ["b"], [], 0),
        ])

    def test_within_one_another(self):
        self.assertEqual(self.rows("if a", "each i", "if b", "else", "end", "end", "else", "span j a b", "end", "if b", "end", "end"), [
            ("choice", 0, 11, 6, ["a"], [
                ("loop", 1, 5, "each", "i", [], [("choice", 2, 4, 3, ["b"], [], [])]),
            ], [
                ("loop", 7, 8, "span", "j", ["a", "b"], []),
                ("choice", 9, 10, None, ["b"], [], []),
            ]),
        ])

    def test_one_behind_the_other(self):
        lines = ["each i", "end", "if a", "end"] * 5
        self.assertEqual([row[1:3] for row in self.rows(*lines)], [(line, line + 1) for line in range(0, 20, 2)])

    def test_three_within_one_another_and_a_fourth(self):
        begins = ("each i", "span i a b", "if a")
        for seed in range(30):
            dice = random.Random(seed)
            begun = [dice.choice(begins) for number in range(3)]
            self.rows(*begun, "end", "end", "end")
            for line in begins:
                self.refused(NoProgram, {"line": 3}, *begun, line, "end", "end", "end", "end")
                self.refused(NoProgram, {"line": 3}, *begun, line)
            self.rows(*begun, "end", "each i", "end", "end", "end")
        self.rows("if a", "else", "if b", "else", "if c", "else", "end", "end", "end")
        self.refused(NoProgram, {"line": 6}, "if a", "else", "if b", "else", "if c", "else", "if d")

    def test_an_else_that_cant_stand_there(self):
        self.refused(NoProgram, {"line": 0}, "else")
        self.refused(NoProgram, {"line": 1}, "a = 1", "else", "end")
        self.refused(NoProgram, {"line": 1}, "each i", "else", "end")
        self.refused(NoProgram, {"line": 1}, "span i a b", "else", "end")
        self.refused(NoProgram, {"line": 2}, "if a", "else", "else", "end")
        self.refused(NoProgram, {"line": 3}, "if a", "else", "out a", "else", "end")
        self.refused(NoProgram, {"line": 2}, "if a", "each i", "else", "end", "end")
        self.refused(NoProgram, {"line": 2}, "if a", "end", "else", "end")
        self.refused(NoProgram, {"line": 4}, "if a", "else", "if b", "else", "else", "end", "end")
        self.refused(NoProgram, {"line": 4}, "if a", "else", "if b", "end", "else", "end")
        self.rows("each i", "if a", "else", "end", "end")
        self.rows("if a", "if b", "end", "else", "end")
        self.rows("if a", "each i", "end", "else", "end")

    def test_an_end_too_many(self):
        self.refused(NoProgram, {"line": 0}, "end")
        self.refused(NoProgram, {"line": 1}, "a = 1", "end")
        self.refused(NoProgram, {"line": 2}, "each i", "end", "end")
        self.refused(NoProgram, {"line": 5}, "if a", "else", "span i a b", "end", "end", "end", "x")

    def test_an_end_too_few(self):
        for lines in (["each i"], ["if a"], ["span i a b"], ["if a", "else"], ["if a", "each i", "end"], ["each i", "out i"],
                      ["a = 1", "if a", "if b", "else", "end", "else"], ["each i", "end", "each i"]):
            self.refused(NoProgram, {"line": len(lines)}, *lines)


class Paths(Case):

    def test_steps(self):
        for path, steps in (
            ("n", ["n"]), ("dot.x", ["dot", "x"]), ("rows.0", ["rows", 0]), ("rows.2", ["rows", 2]),
            ("rows.k", ["rows", ("name", "k")]), ("rows.rows", ["rows", ("name", "rows")]), ("dots.1.y", ["dots", 1, "y"]),
            ("dots.x.x", ["dots", ("name", "x"), "x"]), ("what.circ.r", ["what", "circ", "r"]),
            ("what.line.from.y", ["what", "line", "from", "y"]),
        ):
            self.assertEqual(self.rows("a = look i " + path), [("row", 0, "look", "a", ["i"], steps, 0)])
            self.assertEqual(self.rows("store i %s b" % path), [("row", 0, "store", "", ["i", "b"], steps, 0)])
            self.refused(WrongPath, {"line": 0, "path": path}, "a = which i " + path)
            self.refused(WrongPath, {"line": 0, "path": path}, "choose i %s b" % path)

    def test_steps_to_picks(self):
        for path, steps in (
            ("v", ["v"]), ("v.d.u", ["v", "d", "u"]), ("v.d.u.c.r", ["v", "d", "u", "c", "r"]), ("w.1.r", ["w", 1, "r"]),
            ("w.w.r", ["w", ("name", "w"), "r"]),
        ):
            self.assertEqual(self.rows("a = which i " + path, shapes=PICKED), [("row", 0, "which", "a", ["i"], steps, 0)])
            self.assertEqual(self.rows("choose i %s b" % path, shapes=PICKED), [("row", 0, "choose", "", ["i", "b"], steps, 0)])
            self.refused(WrongPath, {"line": 0, "path": path}, "a = look i " + path, shapes=PICKED)
            self.refused(WrongPath, {"line": 0, "path": path}, "store i %s b" % path, shapes=PICKED)

    def test_paths_that_lead_to_none(self):
        for path in (
            "x", "m", "nn", "what.tag", "what.tagg", "what.dot", "what.circ", "what.circ.mid", "what.circ.x", "what.fig", "dot",
            "dot.z", "dot.0", "dots", "dots.0", "dots.2.x", "dots.10.x", "dots.k", "rows", "rows.3", "rows.4", "rows.00", "rows.01",
            "rows.-1", "rows.+1", "rows.1.0", "rows.0.x", "rows.", "rows.k.k", "rows.K", "rows.abcdefg", "rows.tag", "rows.put",
            "rows.a1", "rows.99999999999", "n.n", "n.0", "n.", ".n", ".", "..", "dot..x", "dot.x.", "N", "dot,x", "0", "what.0",
            "what.0.r", "what.circ.r.r", "what.line.tag", "tag", "=", "what.which", "dots.0,x", "rows.1a", "what.", "what.k",
        ):
            for line in ("a = look i %s", "store i %s b", "a = which i %s", "choose i %s b"):
                self.refused(WrongPath, {"line": 0, "path": path}, line % path)
                self.refused(WrongPath, {"line": 1, "path": path}, "each i", line % path, "else")
        for path in ("v.tag", "v.d", "v.d.u.c", "v.d.u.tag", "v.d.u.b.q", "w.2.r", "w.0", "w", "v.d.u.c.r.a", "v.b.r", "v.c.r"):
            for line in ("a = look i %s", "store i %s b", "a = which i %s", "choose i %s b"):
                self.refused(WrongPath, {"line": 0, "path": path}, line % path, shapes=PICKED)

    def test_a_row_of_six_and_of_one(self):
        shapes = read_shapes("shape a\nx row 6 num 1\ny row 1 num 1")
        self.assertEqual(self.rows("a = look i x.5", shapes=shapes)[0][5], ["x", 5])
        self.assertEqual(self.rows("a = look i y.0", shapes=shapes)[0][5], ["y", 0])
        self.refused(WrongPath, {"line": 0, "path": "x.6"}, "a = look i x.6", shapes=shapes)
        self.refused(WrongPath, {"line": 0, "path": "y.1"}, "a = look i y.1", shapes=shapes)

    def test_kinds_of_steps(self):
        steps = read_program(FIGURES, "a = look i dots.k.x\na = look i dots.1.x").rows
        self.assertIs(steps[0].steps[1].__class__, tuple)
        self.assertIs(steps[1].steps[1].__class__, int)


class Names(Case):

    def test_in_the_order_in_which_they_first_stand(self):
        self.assertEqual(self.names("c = b - a", "a = d"), ["c", "b", "a", "d"])
        self.assertEqual(self.names("span z y x", "copy x w", "end"), ["z", "y", "x", "w"])
        self.assertEqual(self.names("if q", "else", "take p", "end", "out q", "out r"), ["q", "p", "r"])
        self.assertEqual(self.names("b = 1", "a = put", "c = many", "each d", "end"), ["b", "a", "c", "d"])

    def test_those_of_steps_at_their_place(self):
        self.assertEqual(self.names("store c rows.b a"), ["c", "b", "a"])
        self.assertEqual(self.names("c = look b rows.a"), ["c", "b", "a"])
        self.assertEqual(self.names("c = look b dots.a.x"), ["c", "b", "a"])
        self.assertEqual(self.names("choose c w.b.r a", "d = which e w.f.r", shapes=PICKED), ["c", "b", "a", "d", "e", "f"])
        self.assertEqual(self.names("store a rows.a a"), ["a"])
        self.assertEqual(self.names("store i n b", "c = which i what", "d = look i what.circ.r"), ["i", "b", "c", "d"])

    def test_two_in_one_path(self):
        shapes = read_shapes("shape a\nx row 2 num 1\nshape b\ny row 3 a")
        program = read_program(shapes, "c = look i y.k.x.j")
        self.assertEqual(program.names(), ["c", "i", "k", "j"])
        self.assertEqual(program.rows[0].steps, ["y", ("name", "k"), "x", ("name", "j")])
        self.assertEqual(program.rows[0].reads, ["i"])

    def test_twelve_and_thirteen(self):
        letters = "abcdefghijklm"
        twelve = ["out %s" % letter for letter in letters[:12]]
        self.assertEqual(self.names(*twelve), list(letters[:12]))
        self.assertEqual(self.names(*twelve, *twelve), list(letters[:12]))
        self.refused(TooMuch, {"line": 12}, *twelve, "out m")
        self.refused(TooMuch, {"line": 14}, *twelve, "out a", "out b", "m = 1", "x")
        self.refused(TooMuch, {"line": 12}, *twelve, "a = look b rows.m")
        self.refused(TooMuch, {"line": 12}, *twelve, "each m")
        self.refused(TooMuch, {"line": 11}, *twelve[:11], "l = m")
        self.assertEqual(self.names(*twelve[:11], "a = look b rows.m"), list(letters[:11]) + ["m"])
        self.refused(TooMuch, {"line": 11}, *twelve[:11], "l = look b rows.m")

    def test_a_new_list_each_time(self):
        program = read_program(FIGURES, "a = b\nout c")
        told = program.names()
        self.assertTrue(is_apart(told, program.names()))
        told.clear()
        self.assertEqual(program.names(), ["a", "b", "c"])


class Much(Case):

    def test_sixty_lines_and_sixty_one(self):
        sixty = ["out a"] * 60
        self.assertEqual(len(self.rows(*sixty)), 60)
        self.refused(TooMuch, {"line": 60}, *sixty, "out a")
        self.refused(TooMuch, {"line": 60}, *sixty, "out a", "x", "y")
        self.refused(TooMuch, {"line": 60}, *sixty, "each i")
        self.rows("each i", *sixty[:58], "end")
        self.refused(TooMuch, {"line": 60}, "each i", *sixty[:59], "end")

    def test_the_form_and_the_path_are_told_ahead(self):
        sixty = ["out a"] * 60
        self.refused(NoProgram, {"line": 60}, *sixty, "x")
        self.refused(NoProgram, {"line": 60}, *sixty, "")
        self.refused(NoProgram, {"line": 60}, *sixty, "end")
        self.refused(NoProgram, {"line": 60}, *sixty, "else")
        self.refused(WrongPath, {"line": 60, "path": "z"}, *sixty, "a = look i z")
        twelve = ["out %s" % letter for letter in "abcdefghijkl"]
        self.refused(WrongPath, {"line": 12, "path": "rows.m.m"}, *twelve, "n = look m rows.m.m")
        self.refused(NoProgram, {"line": 12}, *twelve, "out m n")

    def test_what_is_open_is_told_last(self):
        self.refused(WrongPath, {"line": 1, "path": "z"}, "each i", "a = look i z")
        self.refused(TooMuch, {"line": 60}, "each i", *["out a"] * 60)
        self.refused(NoProgram, {"line": 60}, "each i", *["out a"] * 59)

    def test_the_first_line_goes(self):
        self.refused(WrongPath, {"line": 0, "path": "z"}, "store i z b", "x")
        self.refused(NoProgram, {"line": 0}, "x", "store i z b")
        self.refused(WrongPath, {"line": 1, "path": "y"}, "out a", "store i y b", "store i z b")
        self.refused(NoProgram, {"line": 3}, "each i", "each i", "each i", "if a", "store i y b")

    def test_in_one_line(self):
        # A line that can't be one is told ahead of its path.
        self.refused(NoProgram, {"line": 0}, "a = look 1 z")
        self.refused(NoProgram, {"line": 0}, "store i z 1")


class Told(Case):

    def test_shapes_as_they_were_handed_in(self):
        self.assertIs(read_program(FIGURES, "out a").shapes, FIGURES)

    def test_neither_row_stands_under_another(self):
        self.assertEqual({Row.__base__, Loop.__base__, Choice.__base__}, {object})

    def test_two_programs_of_one_text(self):
        text = "each i\na = look i rows.k\nif a\nstore i n a\nelse\ntake i\nend\nend"
        one, other = read_program(FIGURES, text), read_program(read_shapes(DRAWING), text)
        self.assertEqual([shown(row) for row in one.rows], [shown(row) for row in other.rows])
        one.rows.clear()
        self.assertEqual(len(other.rows), 1)

    def test_drawn_ones(self):
        for seed in range(100):
            dice = random.Random(seed)
            shapes = read_shapes(some_text(seed))
            text = some_program(shapes.main(), dice)
            program = read_program(shapes, text)
            self.assertEqual(program.text(), text)
            self.assertEqual(written(program), text.split("\n"))


def written(program):
    """The lines of the program, written anew from its rows."""
    lines = {}
    for row in program.rows:
        write(row, lines)
    return [lines[line] for line in sorted(lines)]


def write(row, lines):
    """Writes the lines of the row, and of those within."""
    if isinstance(row, Row):
        path = ".".join(step[1] if isinstance(step, tuple) else str(step) for step in row.steps)
        words = [row.deed] + row.reads[:1] + [path] * bool(path) + row.reads[1:]
        if row.deed == "number":
            words = [str(row.number)]
        if row.deed in ("name", "+", "-", "*", "<", "=", "&"):
            words = row.reads[:1] + [row.deed] * (row.deed != "name") + row.reads[1:]
        lines[row.line] = " ".join([row.goal, "="] * bool(row.goal) + words)
        return
    lines[row.last] = "end"
    if isinstance(row, Loop):
        lines[row.line] = " ".join([row.deed, row.goal] + row.reads)
    else:
        lines[row.line] = " ".join(["if"] + row.reads)
        if row.middle is not None:
            lines[row.middle] = "else"
        for inner in row.others:
            write(inner, lines)
    for inner in row.rows:
        write(inner, lines)


if __name__ == "__main__":
    unittest.main()
