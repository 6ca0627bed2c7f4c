"""Shapes and kinds that are made by hand, of lists that are changed behind, tell what those tell that are read."""

import random
import unittest

from roomslaid.cellstore import Cells
from roomslaid.chooser import least, table
from roomslaid.flats import flat, of_flat
from roomslaid.layingtext import read_laying
from roomslaid.makers import apart, beside, by_blocks, by_field, by_thing, packed
from roomslaid.program import read_program
from roomslaid.records import blank, is_record
from roomslaid.roompaper import is_paper, paper
from roomslaid.runs import run
from roomslaid.shapes import Many, Nested, Num, Pick, Shape, Shapes
from roomslaid.shapetext import read_shapes
from roomslaid.stores import Plain
from roomslaid.turning import Turning, run_turning
from tests.helper import DRAWING, PICKS, openings, outcome, plain, some_deed, some_laying, some_program, some_record, some_text

TEXTS = [DRAWING, PICKS] + [some_text(seed) for seed in range(40)]


def made_kind(kind, dice):
    """The kind made anew, of shapes that are made anew, too."""
    if isinstance(kind, Num):
        return Num(kind.width)
    if isinstance(kind, Nested):
        return Nested(made_shape(kind.shape, dice))
    if isinstance(kind, Many):
        return Many(kind.count, made_kind(kind.kind, dice))
    return spoilt(dice, [made_shape(shape, dice) for shape in kind.shapes], Pick)


def made_shape(shape, dice):
    """The shape made anew."""
    fields = [(name, made_kind(kind, dice)) for name, kind in shape.fields]
    return spoilt(dice, fields, lambda rows: Shape(shape.name, rows))


def spoilt(dice, rows, make):
    """What is made of the rows, as a tuple, or as a list that is changed behind."""
    if dice.random() < 0.3:
        return make(tuple(rows))
    made = make(rows)
    rows.reverse()
    rows.extend(rows)
    if dice.random() < 0.5:
        rows.clear()
    return made


def by_hand(text, dice):
    """The shapes of the text, made by hand of parts that are changed behind."""
    return spoilt(dice, [made_shape(shape, dice) for shape in read_shapes(text).shapes], Shapes)


class Told(unittest.TestCase):

    def pairs(self):
        for seed, text in enumerate(TEXTS):
            dice = random.Random(seed)
            yield read_shapes(text), by_hand(text, dice), dice

    def test_shapes_units_and_leaves(self):
        for read, made, dice in self.pairs():
            self.assertEqual(made.text(), read.text())
            self.assertEqual(len(made.shapes), len(read.shapes))
            for one, other in zip(made.shapes, read.shapes):
                self.assertEqual((one.name, one.size(), one.depth()), (other.name, other.size(), other.depth()))
                self.assertEqual(plain((one.units(), one.leaves())), plain((other.units(), other.leaves())))
                for (name, kind), (own, wanted) in zip(one.fields, other.fields):
                    self.assertEqual((name, kind.word(), kind.text(), kind.size(), kind.depth()),
                                     (own, wanted.word(), wanted.text(), wanted.size(), wanted.depth()))
                self.assertEqual(made.shape_of(one.name), one)

    def test_paths(self):
        for read, made, dice in self.pairs():
            for path in [""] + [row[0] for row in read.main().leaves() if not row[0].endswith(".tag")]:
                while path:
                    one, other = made.main().kind_of(path), read.main().kind_of(path)
                    self.assertEqual((one.word(), one.text()), (other.word(), other.text()))
                    path = path.rpartition(".")[0]
                self.assertEqual(made.main().kind_of("").text(), read.main().name)

    def test_a_list_for_a_pick_is_changed_behind(self):
        shapes = [Shape("a", [("x", Num(1))]), Shape("b", [("y", Num(4))])]
        kind = Pick(shapes)
        main = Shape("c", [("p", kind)])
        shapes.pop()
        shapes.insert(0, Shape("d", [("x", Num(2))]))
        read = read_shapes("shape a\nx num 1\nshape b\ny num 4\nshape c\np pick a b")
        self.assertEqual(main.units(), read.main().units())
        self.assertEqual(main.leaves(), read.main().leaves())

    def test_records_and_flat_lists(self):
        for read, made, dice in self.pairs():
            record = some_record(read.main(), dice)
            self.assertTrue(is_record(made.main(), record))
            self.assertFalse(is_record(made.main(), dict(record, zzz=0)))
            self.assertEqual(plain(blank(made.main())), plain(blank(read.main())))
            self.assertEqual(flat(made.main(), record), flat(read.main(), record))
            self.assertEqual(plain(of_flat(made.main(), flat(read.main(), record))), plain(record))

    def test_layings_and_papers(self):
        for read, made, dice in self.pairs():
            text = some_laying(read.main(), dice, 3)
            one, other = read_laying(made, text), read_laying(read, text)
            self.assertIs(one.shapes, made)
            self.assertEqual(paper(one), paper(other))
            self.assertTrue(is_paper(one, paper(other)))
            for unit, width, sort in read.main().units():
                self.assertEqual([one.place(unit, thing) for thing in range(3)], [other.place(unit, thing) for thing in range(3)])
            for path, width, unit, offset, holds in read.main().leaves():
                self.assertEqual(one.leaf_place(path, 2), other.leaf_place(path, 2))

    def test_layings_that_are_made(self):
        for read, made, dice in self.pairs():
            hot = [path for path, width, sort in read.main().units() if dice.random() < 0.5]
            self.assertEqual(
                [by_thing(made, 5, 4), by_field(made, 5), by_blocks(made, 5, 3), packed(made, 5), apart(made, 5, hot)],
                [by_thing(read, 5, 4), by_field(read, 5), by_blocks(read, 5, 3), packed(read, 5), apart(read, 5, hot)])
            for name, kind in read.main().fields:
                if kind.word() == "row":
                    self.assertEqual(beside(made, 5, name), beside(read, 5, name))

    def test_stores(self):
        for read, made, dice in self.pairs():
            records = [some_record(read.main(), dice) for number in range(3)]
            texts = [some_laying(read.main(), dice, 4) for number in range(2)]
            stores = []
            for shapes in (read, made):
                old, new = [read_laying(shapes, text) for text in texts]
                stores.extend([Plain(shapes, 4, records), Cells(old, records), Turning(old, new, records)])
            # A new laying for the same shapes, read or by hand, makes no difference.
            stores.append(Turning(read_laying(read, texts[0]), read_laying(made, texts[1]), records))
            for number in range(30):
                deed = some_deed(read.main(), dice, stores[0].many())
                self.assertEqual(len({outcome(store, deed) for store in stores}), 1, deed)
                for store in (stores[2], stores[5], stores[6]):
                    store.step(1 if number % 9 == 0 else 0)
            self.assertEqual(len({plain(store.looks) for store in stores}), 1)
            for store in stores:
                self.assertEqual(store.records(), stores[0].records())
            self.assertEqual(stores[1].places, stores[4].places)
            self.assertEqual(stores[2].places, stores[5].places)

    def test_runs_and_tables(self):
        for read, made, dice in self.pairs():
            records = [some_record(read.main(), dice) for number in range(3)]
            text, program = some_laying(read.main(), dice, 4), some_program(read.main(), dice)
            told = []
            for one, other in ((read, read), (made, made), (read, made), (made, read)):
                laying, rows = read_laying(one, text), read_program(other, program)
                store = Turning(laying, laying, records)
                told.append(plain((
                    vars(run(rows, Plain(one, 4, records), {}, 200)), vars(run(rows, Cells(laying, records), {}, 200)),
                    vars(run_turning(rows, store, {}, 200, [0, 1] * 4)), table(rows, [laying], records, {}, 200, 8, 4),
                    least(rows, [laying, laying], records, {}, 200, 8, 4))))
            self.assertEqual(told, told[:1] * 4)

    def test_openings(self):
        many = 0
        for read, made, dice in self.pairs():
            for one, other in zip(openings(made), openings(read)):
                self.assertIs(one.before, made)
                self.assertEqual((one.name, one.field, one.given), (other.name, other.field, other.given))
                self.assertEqual(one.after.text(), other.after.text())
                self.assertEqual(one.after.main().leaves(), other.after.main().leaves())
                record = some_record(read.main(), dice)
                self.assertEqual(plain(one.record_onward(record)), plain(other.record_onward(record)))
                many += 1
        self.assertGreater(many, 20)


if __name__ == "__main__":
    unittest.main()
