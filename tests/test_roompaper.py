"""The paper of a room: what it tells of each cell, and which things are the paper of a laying."""

import random
import unittest

from roomslaid.layingtext import read_laying
from roomslaid.roompaper import is_paper, paper
from roomslaid.shapetext import read_shapes
from tests.helper import ODD, PICKS, bits_of, block_length, is_apart, laid_at, plain, some_laying, some_text

PAIR = read_shapes("shape a\nx num 2\ny num 1")
TAGGED = read_shapes("shape a\nx num 1\nshape b\nx num 2\nshape c\np pick a b\nn num 1")
PICKED = read_shapes(PICKS)
ALL_SORTS = "\n".join([
    "room 28 things 3",
    "part 2 2 5 : p n",
    "tags 24 : p.tag",
])


def told_by_bits(shape, text):
    """The paper of this text, reckoned from the bits of its places and the cells of its blocks."""
    head, *lines = text.split("\n")
    room, things = int(head.split(" ")[1]), int(head.split(" ")[3])
    owners = {bit: (key, place) for key, place in laid_at(shape.units(), text).items() for bit in bits_of(place)}
    wide = {path: width for path, width, sort in shape.units()}
    rows = []
    for cell in range(room):
        four = [owners.get(8 * cell + shift) for shift in (0, 2, 4, 6)]
        if any(owner is not None and owner[1][2] == 2 for owner in four):
            rows.append(("tags", tuple(owner and owner[0] for owner in four)))
        elif four[0] is not None:
            (unit, thing), place = four[0]
            rows.append(("has", unit, thing, cell - place[0]))
        else:
            rows.append(filled_up(cell, things, lines, wide))
    return rows


def filled_up(cell, things, lines, wide):
    """What is told of a cell that no place has."""
    for number, line in enumerate(lines):
        words, laid = line.split(" : ")[0].split(" "), line.split(" : ")[1].split(" ")
        if words[0] == "part":
            base, block, length = int(words[1]), int(words[2]), block_length(line, wide)
            for first in range(base, base + length * len(range(0, things, block)), length):
                if first <= cell < first + length:
                    within = block * sum(wide[unit] for unit in laid)
                    return ("spare" if cell - first < within else "pad", number)
    return ("free",)


class Told(unittest.TestCase):

    def test_all_sorts(self):
        # A block has three cells of each of two things, and four that pad it up to ten.
        self.assertEqual(paper(read_laying(TAGGED, ALL_SORTS)), [
            ("free",), ("free",),
            ("has", "p", 0, 0), ("has", "p", 0, 1), ("has", "p", 1, 0), ("has", "p", 1, 1), ("has", "n", 0, 0), ("has", "n", 1, 0),
            ("pad", 0), ("pad", 0), ("pad", 0), ("pad", 0),
            ("has", "p", 2, 0), ("has", "p", 2, 1), ("spare", 0), ("spare", 0), ("has", "n", 2, 0), ("spare", 0),
            ("pad", 0), ("pad", 0), ("pad", 0), ("pad", 0),
            ("free",), ("free",),
            ("tags", (("p.tag", 0), ("p.tag", 1), ("p.tag", 2), None)),
            ("free",), ("free",), ("free",),
        ])

    def test_the_least_room(self):
        shapes = read_shapes("shape a\nx num 1")
        self.assertEqual(paper(read_laying(shapes, "room 1 things 1\npart 0 64 64 : x")), [("has", "x", 0, 0)])

    def test_the_widest_room(self):
        shapes = read_shapes("shape a\nx num 1")
        rows = paper(read_laying(shapes, "room 8192 things 1\npart 8191 1 64 : x"))
        self.assertEqual(rows, [("free",)] * 8191 + [("has", "x", 0, 0)])
        rows = paper(read_laying(shapes, "room 8192 things 64\npart 0 1 1 : x"))
        self.assertEqual(rows, [("has", "x", thing, 0) for thing in range(64)] + [("free",)] * 8128)

    def test_tags_across_cells_and_things(self):
        laying = read_laying(PICKED, "room 99 things 2\ntags 1 : w.1.r.tag v.tag w.0.r.tag\npart 4 1 1 : v w.0.r w.0.s w.1.r w.1.s")
        self.assertEqual(paper(laying)[:4], [
            ("free",),
            ("tags", (("w.1.r.tag", 0), ("v.tag", 0), ("w.0.r.tag", 0), ("w.1.r.tag", 1))),
            ("tags", (("v.tag", 1), ("w.0.r.tag", 1), None, None)),
            ("free",),
        ])

    def test_parts_of_tags_have_no_blocks_but_are_counted(self):
        rows = paper(read_laying(TAGGED, "room 9 things 1\ntags 0 : p.tag\npart 1 1 8 : n p"))
        self.assertEqual(rows[0], ("tags", (("p.tag", 0), None, None, None)))
        self.assertEqual(rows[1:], [("has", "n", 0, 0), ("has", "p", 0, 0), ("has", "p", 0, 1)] + [("pad", 1)] * 5)

    def test_a_whole_tag_is_had(self):
        rows = paper(read_laying(TAGGED, "room 4 things 1\npart 0 1 1 : n p.tag p"))
        self.assertEqual(rows, [("has", "n", 0, 0), ("has", "p.tag", 0, 0), ("has", "p", 0, 0), ("has", "p", 0, 1)])

    def test_blocks_over_those_of_another_part(self):
        # The first part in the text is told, be it spare there or pad.
        lines = ["part 0 4 1 : x", "part 2 1 4 : y"]
        rows = paper(read_laying(PAIR, "\n".join(["room 8 things 1"] + lines)))
        self.assertEqual(rows, [("has", "x", 0, 0), ("has", "x", 0, 1), ("has", "y", 0, 0)] + [("spare", 0)] * 5)
        rows = paper(read_laying(PAIR, "\n".join(["room 8 things 1"] + lines[::-1])))
        self.assertEqual(rows, [("has", "x", 0, 0), ("has", "x", 0, 1), ("has", "y", 0, 0)] + [("pad", 0)] * 3
                         + [("spare", 1)] * 2)

    def test_places_in_the_pads_of_another_part(self):
        rows = paper(read_laying(PAIR, "room 9 things 2\npart 0 1 4 : x\npart 3 1 4 : y"))
        self.assertEqual(rows, [
            ("has", "x", 0, 0), ("has", "x", 0, 1), ("pad", 0), ("has", "y", 0, 0), ("has", "x", 1, 0), ("has", "x", 1, 1),
            ("pad", 0), ("has", "y", 1, 0), ("pad", 1)])

    def test_blocks_that_reach_past_the_room(self):
        rows = paper(read_laying(PAIR, "room 5 things 1\npart 0 64 64 : x\npart 2 1 64 : y"))
        self.assertEqual(rows, [("has", "x", 0, 0), ("has", "x", 0, 1), ("has", "y", 0, 0), ("spare", 0), ("spare", 0)])

    def test_as_many_blocks_as_things_need(self):
        for things, behind in ((1, 4), (2, 4), (3, 8), (4, 8), (5, 12)):
            rows = paper(read_laying(read_shapes("shape a\nx num 1"), "room 20 things %d\npart 0 2 4 : x" % things))
            self.assertEqual(rows[behind:], [("free",)] * (20 - behind))
            self.assertEqual(rows[behind - 1], ("pad", 0))

    def test_drawn_ones(self):
        sorts = set()
        for seed in range(150):
            dice = random.Random(seed)
            shapes = read_shapes(some_text(seed))
            text = some_laying(shapes.main(), dice, dice.choice([1, 2, 3, 5, 8]))
            rows = paper(read_laying(shapes, text))
            self.assertEqual(rows, told_by_bits(shapes.main(), text), text)
            sorts.update(row[0] for row in rows)
        self.assertEqual(sorts, {"has", "tags", "pad", "spare", "free"})

    def test_it_is_new_each_time(self):
        laying = read_laying(TAGGED, ALL_SORTS)
        told = paper(laying)
        self.assertTrue(is_apart(told, paper(laying)))
        told.clear()
        self.assertEqual(len(paper(laying)), 28)


class IsPaper(unittest.TestCase):

    def setUp(self):
        self.laying = read_laying(TAGGED, ALL_SORTS)

    def is_none(self, thing):
        before = plain(thing)
        self.assertIs(is_paper(self.laying, thing), False, thing)
        self.assertEqual(plain(thing), before)

    def test_the_paper(self):
        self.assertIs(is_paper(self.laying, paper(self.laying)), True)
        self.assertIs(is_paper(self.laying, told_by_bits(TAGGED.main(), ALL_SORTS)), True)
        for seed in range(40):
            shapes = read_shapes(some_text(seed))
            laying = read_laying(shapes, some_laying(shapes.main(), random.Random(seed), 3))
            self.assertIs(is_paper(laying, paper(laying)), True)

    def test_other_things(self):
        for thing in ODD:
            self.is_none(thing)
        for thing in (tuple(paper(self.laying)), dict(enumerate(paper(self.laying))), [paper(self.laying)], str(paper(self.laying)),
                      self.laying, TAGGED):
            self.is_none(thing)

    def test_a_row_more_or_less(self):
        rows = paper(self.laying)
        for thing in (rows[:-1], rows[1:], rows + [("free",)], rows + [None], rows + rows, [("free",)] + rows, []):
            self.is_none(thing)

    def test_other_rows(self):
        rows = paper(self.laying)
        for at, row in enumerate(rows):
            for other in (list(row), row + (0,), row + (None,), row[:-1], (), None, row[0], [row], (row,), ("free", None),
                          ("has", "p", 9, 0), ("spare", 9), ("pad", 9), ("tags", (None,) * 4), True, 0):
                self.is_none(rows[:at] + [other] + rows[at + 1:])

    def test_other_things_in_the_rows(self):
        rows = paper(self.laying)
        for at, row in enumerate(rows):
            for place in range(len(row)):
                for thing in ODD:
                    if plain(thing) != plain(row[place]):
                        changed = row[:place] + (thing,) + row[place + 1:]
                        self.is_none(rows[:at] + [changed] + rows[at + 1:])

    def test_truths_for_numbers(self):
        rows = paper(self.laying)
        for at, row in ((2, ("has", "p", False, 0)), (2, ("has", "p", 0, False)), (3, ("has", "p", 0, True)),
                        (4, ("has", "p", True, 0)), (8, ("pad", False)), (14, ("spare", False))):
            self.assertEqual(rows[at], row)
            self.is_none(rows[:at] + [row] + rows[at + 1:])

    def test_within_four_tags(self):
        rows = paper(self.laying)
        four = rows[24][1]
        for other in (list(four), four[:3], four + (None,), (list(four[0]),) + four[1:], four[:3] + (False,), four[:3] + (0,),
                      four[:3] + ((),), four[:3] + ("",), (("p.tag", False),) + four[1:], four[:1] + (("p.tag", True),) + four[2:],
                      (None,) + four[1:], four[::-1], (four[0][:1],) + four[1:], (four[0] + (0,),) + four[1:],
                      (("p", 0),) + four[1:], ((0, "p.tag"),) + four[1:], (four[1], four[0]) + four[2:]):
            self.is_none(rows[:24] + [("tags", other)] + rows[25:])

    def test_the_paper_of_another_laying(self):
        for text in (ALL_SORTS.replace("room 28", "room 29"), ALL_SORTS.replace("tags 24", "tags 25"),
                     ALL_SORTS.replace("2 5", "2 10").replace("p n", "n p"), ALL_SORTS.replace("things 3", "things 2")):
            self.is_none(paper(read_laying(TAGGED, text)))


if __name__ == "__main__":
    unittest.main()
