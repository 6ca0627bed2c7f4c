"""Lines of cells that places touch, and the places of the looks of a part of a program."""

import copy
import random
import unittest

from roomslaid.cellstore import Cells
from roomslaid.errors import NoLine, NoPlace
from roomslaid.layingtext import read_laying
from roomslaid.lines import lines_of, looks_between
from roomslaid.program import read_program
from roomslaid.runs import run
from roomslaid.shapetext import read_shapes
from tests.helper import ODD, bits_of, is_apart, refused


class LinesOf(unittest.TestCase):

    def test_place_by_place(self):
        self.assertEqual(lines_of([(0, 0, 8), (7, 0, 8), (8, 0, 8), (0, 0, 8)], 4), [0, 1, 2, 0])
        self.assertEqual(lines_of([(9, 0, 8), (1, 6, 2), (9, 2, 2)], 4), [2, 0, 2])
        self.assertEqual(lines_of([], 4), [])

    def test_a_line_that_several_touch_is_told_as_often(self):
        self.assertEqual(lines_of([(0, 0, 8), (1, 0, 8), (0, 0, 8)], 64), [0, 0, 0])

    def test_places_across_lines(self):
        self.assertEqual(lines_of([(3, 0, 16)], 4), [0, 1])
        self.assertEqual(lines_of([(2, 0, 16)], 4), [0])
        self.assertEqual(lines_of([(4, 0, 16)], 4), [1])
        self.assertEqual(lines_of([(3, 0, 48)], 4), [0, 1, 2])
        self.assertEqual(lines_of([(3, 0, 40)], 4), [0, 1])
        self.assertEqual(lines_of([(63, 0, 512)], 64), [0, 1])
        self.assertEqual(lines_of([(64, 0, 512)], 64), [1])
        self.assertEqual(lines_of([(62, 0, 32), (3, 0, 8)], 5), [12, 13, 0])

    def test_lines_of_one_cell(self):
        self.assertEqual(lines_of([(5, 0, 24), (5, 4, 2)], 1), [5, 6, 7, 5])
        self.assertEqual(lines_of([(0, 0, 512)], 1), list(range(64)))

    def test_by_cells(self):
        dice = random.Random(1)
        for wide in (1, 2, 3, 7, 8, 16, 63, 64):
            places = [dice.choice([(dice.randrange(8192), 0, 8 * dice.randint(1, 64)), (dice.randrange(8192), dice.choice([0, 2, 4, 6]), 2)])
                      for number in range(60)]
            wanted = [line for place in places for line in sorted({bit // 8 // wide for bit in bits_of(place)})]
            self.assertEqual(lines_of(places, wide), wanted)

    def test_widths_that_are_none(self):
        for wide in ODD + [65, 0, -1, "8", (8,), [8]]:
            if isinstance(wide, int) and not isinstance(wide, bool) and 1 <= wide <= 64:
                continue
            refused(self, NoLine, {"found": wide}, lines_of, [(0, 0, 8)], wide)
            refused(self, NoLine, {"found": wide}, lines_of, [], wide)
            refused(self, NoLine, {"found": wide}, lines_of, [None], wide)

    def test_the_first_thing_that_is_no_place(self):
        for thing in ODD + [[0, 0, 8], (0, 0, 520), (0, 1, 2), (0, 0, 0), (-1, 0, 8), (0, 0, True), (0, False, 8), (0, (0, 0, 8))]:
            if thing == (0, 0, 8) and isinstance(thing, tuple):
                continue
            refused(self, NoPlace, {"found": thing}, lines_of, [thing], 8)
            refused(self, NoPlace, {"found": thing}, lines_of, [(0, 0, 8), thing, "z"], 8)

    def test_a_new_list_each_time(self):
        places = [(0, 0, 16)]
        self.assertTrue(is_apart(lines_of(places, 1), lines_of(places, 1), places))
        self.assertEqual(places, [(0, 0, 16)])


class LooksBetween(unittest.TestCase):

    ROWS = [0, 2, 3, 2, 5, 3]
    PLACES = [[(0, 0, 8)], [(1, 0, 8), (2, 0, 8)], [], [(3, 2, 2)], [(5, 0, 16)], [(6, 0, 8)]]

    def test_from_first_to_last(self):
        self.assertEqual(looks_between(self.ROWS, self.PLACES, 0, 5),
                         [(0, 0, 8), (1, 0, 8), (2, 0, 8), (3, 2, 2), (5, 0, 16), (6, 0, 8)])
        self.assertEqual(looks_between(self.ROWS, self.PLACES, 2, 3), [(1, 0, 8), (2, 0, 8), (3, 2, 2), (6, 0, 8)])
        self.assertEqual(looks_between(self.ROWS, self.PLACES, 3, 3), [(6, 0, 8)])
        self.assertEqual(looks_between(self.ROWS, self.PLACES, 4, 60), [(5, 0, 16)])
        self.assertEqual(looks_between(self.ROWS, self.PLACES, -5, 0), [(0, 0, 8)])
        self.assertEqual(looks_between(self.ROWS, self.PLACES, 1, 1), [])
        self.assertEqual(looks_between(self.ROWS, self.PLACES, 6, 60), [])

    def test_first_greater_than_last(self):
        self.assertEqual(looks_between(self.ROWS, self.PLACES, 3, 2), [])
        self.assertEqual(looks_between(self.ROWS, self.PLACES, 5, 0), [])

    def test_no_looks(self):
        self.assertEqual(looks_between([], [], 0, 60), [])

    def test_what_is_handed_in_stays(self):
        rows, places = copy.deepcopy((self.ROWS, self.PLACES))
        told = looks_between(rows, places, 0, 60)
        told.append(None)
        self.assertEqual((rows, places), (self.ROWS, self.PLACES))
        self.assertTrue(is_apart(looks_between(rows, places[:2], 0, 0), places))

    def test_of_a_loop(self):
        shapes = read_shapes("shape a\nx num 1\ny num 2")
        cells = Cells(read_laying(shapes, "room 9 things 3\npart 0 3 1 : x y"), [{"x": 1, "y": 2}, {"x": 3, "y": 4}])
        program = read_program(shapes, "a = look z y\neach i\na = look i x\nend\na = look z y")
        told = run(program, cells, {}, 99)
        loop = program.rows[1]
        self.assertEqual(looks_between(told.lines, cells.places, loop.line, loop.last), [(0, 0, 8), (1, 0, 8)])
        self.assertEqual(looks_between(told.lines, cells.places, 0, 0), [(3, 0, 16)])


if __name__ == "__main__":
    unittest.main()
