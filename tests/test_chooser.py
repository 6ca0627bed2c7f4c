"""Layings held against one another: the lines that a program touches and fetches, and which laying fetches fewest."""

import copy
import random
import unittest

from roomslaid.cellstore import Cells
from roomslaid.chooser import least, table
from roomslaid.errors import NoBudget, NoInput, NoKeep, NoLayings, NoLine, NoThings
from roomslaid.layingtext import read_laying
from roomslaid.makers import apart, by_blocks, by_field, by_thing, packed
from roomslaid.program import read_program
from roomslaid.records import blank
from roomslaid.runs import run
from roomslaid.shapetext import read_shapes
from tests.helper import ODD, PICKS, bits_of, is_apart, plain, refused, refused_at, some_laying, some_program, some_record, some_text

TEXT = "shape a\nx num 2\ny num 1"
SIMPLE = read_shapes(TEXT)
PICKED = read_shapes(PICKS)
BY_THING = read_laying(SIMPLE, by_thing(SIMPLE, 4))
BY_FIELD = read_laying(SIMPLE, by_field(SIMPLE, 4))
LOOKS = read_program(SIMPLE, "each i\na = look i x\nend")
RECORDS = [{"x": number, "y": number} for number in range(4)]
GOOD = (LOOKS, [BY_THING, BY_FIELD], RECORDS, {}, 100, 4, 2)
NO_NUMBER = [thing for thing in ODD if isinstance(thing, bool) or not isinstance(thing, int)]


def handed(**other):
    """What is handed in, some of it put otherwise."""
    names = ("program", "layings", "records", "inputs", "budget", "wide", "most")
    return [other.get(name, thing) for name, thing in zip(names, GOOD)]


def fetched_of(lines, most):
    """How many of the lines are fetched: those that are not among the unlike ones touched last."""
    many, last = 0, []
    for line in lines:
        many += line not in last
        last = [line] + [other for other in last if other != line]
        last = last[:most]
    return many


class Rows(unittest.TestCase):

    def test_by_hand(self):
        # By thing x lies in the cells 0 1, 3 4, 6 7, 9 10: the lines 0, 0 1, 1, 2; by field in 0 to 7.
        self.assertEqual(table(*GOOD), [(0, 5, 3), (1, 4, 2)])
        self.assertEqual(least(*GOOD), 1)
        self.assertEqual(table(*handed(layings=[BY_FIELD, BY_THING])), [(0, 4, 2), (1, 5, 3)])
        self.assertEqual(least(*handed(layings=[BY_FIELD, BY_THING])), 0)

    def test_lines_that_come_again(self):
        program = read_program(SIMPLE, "a = look i x\na = look j x\na = look i x\na = look j x")
        self.assertEqual(table(*handed(program=program, inputs={"j": 3}, most=1)), [(0, 4, 4), (1, 4, 4)])
        self.assertEqual(table(*handed(program=program, inputs={"j": 3}, most=2)), [(0, 4, 2), (1, 4, 2)])
        self.assertEqual(table(*handed(program=program, inputs={"j": 3}, wide=64, most=1)), [(0, 4, 1), (1, 4, 1)])

    def test_stores_and_lines_at_their_edges(self):
        self.assertEqual(table(*handed(wide=1, most=32)), [(0, 8, 8), (1, 8, 8)])
        self.assertEqual(table(*handed(wide=64, most=32)), [(0, 4, 1), (1, 4, 1)])

    def test_places_in_their_order(self):
        program = read_program(SIMPLE, "copy i j")
        self.assertEqual(table(*handed(program=program, inputs={"j": 3}, most=1)), [(0, 4, 4), (1, 4, 3)])

    def test_one_laying_and_forty(self):
        self.assertEqual(table(*handed(layings=[BY_THING])), [(0, 5, 3)])
        self.assertEqual(least(*handed(layings=[BY_THING])), 0)
        many = [BY_THING] * 38 + [BY_FIELD] * 2
        self.assertEqual(table(*handed(layings=many)), [(number, 5, 3) for number in range(38)] + [(38, 4, 2), (39, 4, 2)])
        self.assertEqual(least(*handed(layings=many)), 38)

    def test_two_that_fetch_equally_few(self):
        again = read_laying(read_shapes(TEXT), by_field(SIMPLE, 4))
        self.assertEqual(least(*handed(layings=[BY_THING, BY_FIELD, again])), 1)
        self.assertEqual(least(*handed(layings=[BY_THING, BY_THING])), 0)

    def test_fetched_not_touched_is_what_counts(self):
        shapes = read_shapes("shape a\nx num 4\ny num 1")
        layings = [read_laying(shapes, text) for text in (
            "room 40 things 2\npart 2 1 1 : x\npart 30 1 1 : y", "room 40 things 2\npart 4 1 4 : x\npart 30 1 1 : y")]
        program = read_program(shapes, "a = look i x\na = look j x\na = look i x")
        rows = table(program, layings, [blank(shapes.main())] * 2, {"j": 1}, 9, 4, 32)
        self.assertEqual(rows, [(0, 6, 3), (1, 3, 2)])
        program = read_program(shapes, "a = look i x\na = look i y\na = look i x\na = look i y")
        layings = [read_laying(shapes, text) for text in (
            "room 9 things 1\npart 0 1 1 : x\npart 8 1 1 : y", "room 9 things 1\npart 2 1 1 : x y")]
        rows = table(program, layings, [blank(shapes.main())], {}, 9, 4, 1)
        self.assertEqual(rows, [(0, 4, 4), (1, 6, 4)])
        self.assertEqual(least(program, layings, [blank(shapes.main())], {}, 9, 4, 1), 0)
        rows = table(program, layings, [blank(shapes.main())], {}, 9, 4, 2)
        self.assertEqual(rows, [(0, 4, 2), (1, 6, 2)])

    def test_no_looks(self):
        for text in ("", "a = 1\nout a", "each i\nend"):
            program = read_program(SIMPLE, text)
            self.assertEqual(table(*handed(program=program)), [(0, 0, 0), (1, 0, 0)])
            self.assertEqual(least(*handed(program=program)), 0)
        self.assertEqual(table(*handed(records=[])), [(0, 0, 0), (1, 0, 0)])

    def test_budget_0(self):
        self.assertEqual(table(*handed(budget=0)), [(0, 0, 0), (1, 0, 0)])

    def test_up_to_the_fault(self):
        # The second look is the fourth row; behind it the budget ends.
        self.assertEqual(table(*handed(budget=4)), [(0, 3, 2), (1, 2, 1)])
        program = read_program(SIMPLE, "a = look i x\na = look k x\na = look i y")
        self.assertEqual(table(*handed(program=program, inputs={"k": 4})), [(0, 1, 1), (1, 1, 1)])
        program = read_program(SIMPLE, "a = look i x\na = put\na = look i y")
        self.assertEqual(table(*handed(program=program)), [(0, 1, 1), (1, 1, 1)])

    def test_layings_for_unlike_numbers_of_things(self):
        program = read_program(SIMPLE, "a = put\na = put\na = put")
        layings = [read_laying(SIMPLE, by_thing(SIMPLE, things)) for things in (4, 5, 6)]
        rows = table(program, layings, RECORDS, {}, 9, 3, 4)
        self.assertEqual(rows, [(0, 0, 0), (1, 2, 1), (2, 4, 2)])

    def test_packed_tags(self):
        program = read_program(PICKED, "each i\na = which i v\nend")
        records = [blank(PICKED.main())] * 4
        layings = [read_laying(PICKED, make(PICKED, 4)) for make in (by_thing, by_field, packed)]
        self.assertEqual(table(program, layings, records, {}, 99, 1, 1), [(0, 4, 4), (1, 4, 4), (2, 4, 3)])
        self.assertEqual(least(program, layings, records, {}, 99, 1, 1), 2)

    def test_a_new_list_each_time(self):
        told = table(*GOOD)
        self.assertTrue(is_apart(told, table(*GOOD), list(GOOD)))
        told.clear()
        self.assertEqual(table(*GOOD), [(0, 5, 3), (1, 4, 2)])

    def test_what_is_handed_in_stays(self):
        program = read_program(SIMPLE, "each i\nstore i x k\nend\ntake i\ntake k")
        layings, records, inputs = [BY_THING, BY_FIELD], copy.deepcopy(RECORDS), {"k": 1}
        table(program, layings, records, inputs, 99, 4, 2)
        least(program, layings, records, inputs, 99, 4, 2)
        self.assertEqual((layings, records, inputs), ([BY_THING, BY_FIELD], RECORDS, {"k": 1}))

    def test_drawn(self):
        unlike = 0
        for seed in range(40):
            dice = random.Random(seed)
            shapes = read_shapes(some_text(seed))
            main = shapes.main()
            texts = [by_thing(shapes, 4), by_field(shapes, 4), by_blocks(shapes, 5, 2), packed(shapes, 4),
                     apart(shapes, 6, [main.units()[-1][0]])] + [some_laying(main, dice, 4) for number in range(3)]
            layings = [read_laying(shapes, text) for text in texts]
            records = [some_record(main, dice) for number in range(dice.randint(0, 4))]
            program = read_program(shapes, some_program(main, dice))
            budget, wide, most = dice.choice([0, 5, 60, 300]), dice.choice([1, 2, 8, 64]), dice.choice([1, 2, 5, 32])
            wanted = []
            for number, laying in enumerate(layings):
                cells = Cells(laying, records)
                run(program, cells, {}, budget)
                lines = [line for look in cells.places for place in look
                         for line in sorted({bit // 8 // wide for bit in bits_of(place)})]
                wanted.append((number, len(lines), fetched_of(lines, most)))
            self.assertEqual(table(program, layings, records, {}, budget, wide, most), wanted)
            self.assertEqual(least(program, layings, records, {}, budget, wide, most), min(wanted, key=lambda row: row[2])[0])
            unlike += len({row[2] for row in wanted}) > 1
        self.assertGreater(unlike, 10)


class Refused(unittest.TestCase):

    CALLS = (table, least)

    def each(self, kind, fields, things):
        for call in self.CALLS:
            refused(self, kind, fields, call, *things)

    def test_what_is_no_list_of_layings(self):
        other = read_laying(PICKED, by_thing(PICKED, 4))
        for thing in ODD + [(BY_THING,), BY_THING, {0: BY_THING}, [], [BY_THING] * 41, [BY_THING.text()], [[BY_THING]],
                            [other], [BY_THING, other], [BY_THING, None], [BY_THING, SIMPLE], [BY_THING, LOOKS]]:
            self.each(NoLayings, {"found": thing}, handed(layings=thing))
            self.each(NoLayings, {"found": thing}, handed(layings=thing, records=None, inputs={0: 0}, budget=-1, wide=0, most=0))

    def test_each_thing_in_the_list_of_layings(self):
        for thing in ODD:
            layings = [BY_THING, thing]
            self.each(NoLayings, {"found": layings}, handed(layings=layings))

    def test_shapes_of_the_same_text_are_let_by(self):
        again = read_shapes(TEXT)
        layings = [read_laying(again, by_thing(again, 4)), BY_FIELD]
        self.assertEqual(table(*handed(layings=layings)), [(0, 5, 3), (1, 4, 2)])
        program = read_program(again, LOOKS.text())
        self.assertEqual(table(*handed(program=program)), [(0, 5, 3), (1, 4, 2)])

    def test_shapes_that_differ_in_a_name_alone(self):
        for text in (TEXT.replace("x", "z"), TEXT.replace("shape a", "shape b"), "shape z\nq num 1\n" + TEXT):
            shapes = read_shapes(text)
            layings = [BY_THING, read_laying(shapes, by_thing(shapes, 4))]
            self.each(NoLayings, {"found": layings}, handed(layings=layings))

    def test_records(self):
        for thing in [thing for thing in ODD if thing != []] + [tuple(RECORDS), [RECORDS], RECORDS + RECORDS[:1], [{"x": 1}],
                                                                 [{"x": True, "y": 0}]]:
            self.each(NoThings, {"found": thing}, handed(records=thing))
            self.each(NoThings, {"found": thing}, handed(records=thing, inputs={"zz": 1}, budget=-1, wide=0, most=0))

    def test_inputs(self):
        for inputs, name in (({"zz": 1}, "zz"), ({"i": True}, "i"), ({"i": 1 << 32}, "i"), ({"i": None}, "i")):
            for call in self.CALLS:
                refused_at(self, NoInput, {"name": name}, call, *handed(inputs=inputs))
                refused_at(self, NoInput, {"name": name}, call, *handed(inputs=inputs, budget=-1, wide=0, most=0))
        for call in self.CALLS:
            refused_at(self, NoInput, {"name": 7}, call, *handed(inputs={"zz": 1, 7: 0, "i": 3}))

    def test_budgets(self):
        for thing in NO_NUMBER + [-1, 5001, 10 ** 29]:
            self.each(NoBudget, {"found": thing}, handed(budget=thing))
            self.each(NoBudget, {"found": thing}, handed(budget=thing, wide=0, most=0))

    def test_lines(self):
        for thing in NO_NUMBER + [0, -1, 65, 10 ** 29]:
            self.each(NoLine, {"found": thing}, handed(wide=thing))
            self.each(NoLine, {"found": thing}, handed(wide=thing, most=0))
            self.each(NoLine, {"found": thing}, handed(wide=thing, budget=0))

    def test_most(self):
        for thing in NO_NUMBER + [0, -1, 33, 10 ** 29]:
            self.each(NoKeep, {"found": thing}, handed(most=thing))
            self.each(NoKeep, {"found": thing}, handed(most=thing, budget=0))

    def test_laying_by_laying(self):
        small = read_laying(SIMPLE, by_thing(SIMPLE, 3))
        layings = [BY_THING, small]
        # The first laying has room for the things, so the others are refused ahead of the second one.
        self.each(NoThings, {"found": RECORDS}, handed(layings=layings))
        self.each(NoBudget, {"found": -1}, [LOOKS, layings, RECORDS, {}, -1, 0, 0])
        self.each(NoLine, {"found": 0}, [LOOKS, layings, RECORDS, {}, 9, 0, 0])
        self.each(NoKeep, {"found": 0}, [LOOKS, layings, RECORDS, {}, 9, 1, 0])
        for call in self.CALLS:
            refused_at(self, NoInput, {"name": "zz"}, call, LOOKS, layings, RECORDS, {"zz": 0}, -1, 0, 0)
        self.each(NoThings, {"found": RECORDS}, [LOOKS, [small, BY_THING], RECORDS, {"zz": 0}, -1, 0, 0])

    def test_kinds_of_what_is_told(self):
        self.assertEqual(plain(table(*GOOD)), "[(0, 5, 3), (1, 4, 2)]")


if __name__ == "__main__":
    unittest.main()
