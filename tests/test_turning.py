"""A laying turned into another one while deeds are done and programs run: the same as on a plain store."""

import copy
import random
import unittest

from roomslaid.cellstore import Cells
from roomslaid.errors import Beyond, NoBudget, NoInput, NoPath, NoThings, NoTurn, Other, TooMuch
from roomslaid.layingtext import read_laying
from roomslaid.makers import by_blocks, by_field, by_thing, packed
from roomslaid.program import read_program
from roomslaid.records import blank
from roomslaid.runs import Run, run
from roomslaid.shapetext import read_shapes
from roomslaid.stores import Plain, Store
from roomslaid.turning import Turning, run_turning
from tests.helper import (
    ODD, PICKS, bits_in, bits_of, is_apart, outcome, plain, refused, refused_at, some_deed, some_laying, some_program,
    some_record, some_text, spots, touched, wanted_bits)

TEXT = "shape a\nx num 2\ny num 1"
SIMPLE = read_shapes(TEXT)
PICKED = read_shapes(PICKS)
OLD = read_laying(SIMPLE, by_thing(SIMPLE, 4))
NEW = read_laying(SIMPLE, "room 20 things 4\npart 1 4 1 : y\npart 9 1 1 : x")
NO_COUNTS = [thing for thing in ODD if isinstance(thing, bool) or not isinstance(thing, int) or thing < 0]


def simple(many=3):
    """A Turning of so many things, x being ten times y."""
    return Turning(OLD, NEW, [{"x": 10 * number, "y": number} for number in range(many)])


def words(store):
    """The y of each thing."""
    return [record["y"] for record in store.records()]


class Made(unittest.TestCase):

    def test_what_it_tells(self):
        store = simple()
        self.assertIsInstance(store, Store)
        self.assertNotIsInstance(store, Cells)
        self.assertIs(store.old, OLD)
        self.assertIs(store.new, NEW)
        self.assertIs(store.shapes, SIMPLE)
        self.assertEqual((store.mark, store.moved, store.pace, store.places, store.looks), (0, [], [], [], []))
        self.assertEqual((store.many(), store.most(), store.is_turned()), (3, 4, False))
        self.assertEqual(words(store), [0, 1, 2])

    def test_they_lie_in_the_old_room_at_first(self):
        store = simple()
        self.assertEqual(store.rooms[0].cells(), [0, 0, 0, 10, 0, 1, 20, 0, 2, 0, 0, 0])
        self.assertEqual(store.rooms[1].cells(), [0] * 20)

    def test_shapes_of_the_same_text(self):
        again = read_shapes(TEXT)
        new = read_laying(again, NEW.text())
        store = Turning(OLD, new, [])
        self.assertIs(store.shapes, SIMPLE)
        self.assertIs(store.new, new)
        self.assertIs(Turning(new, OLD, []).shapes, again)
        self.assertIs(Turning(OLD, OLD, []).new, OLD)

    def test_what_is_no_new_laying(self):
        others = [read_laying(PICKED, by_thing(PICKED, 4)), read_laying(SIMPLE, by_thing(SIMPLE, 3)),
                  read_laying(SIMPLE, by_thing(SIMPLE, 5))]
        for text in (TEXT.replace("x", "z"), TEXT.replace("shape a", "shape b"), "shape z\nq num 1\n" + TEXT):
            shapes = read_shapes(text)
            others.append(read_laying(shapes, by_thing(shapes, 4)))
        for other in others:
            refused(self, NoTurn, {"found": other}, Turning, OLD, other, [])
            refused(self, NoTurn, {"found": OLD}, Turning, other, OLD, [])
            refused(self, NoTurn, {"found": other}, Turning, OLD, other, None)
        for thing in ODD + [NEW.text(), [NEW], (NEW,)]:
            refused(self, NoTurn, {"found": thing}, Turning, OLD, thing, None)
            refused(self, NoTurn, {"found": NEW}, Turning, thing, NEW, None)

    def test_what_is_no_list_of_records(self):
        for thing in ODD:
            if thing == []:
                continue
            refused(self, NoThings, {"found": thing}, Turning, OLD, NEW, thing)
            records = [{"x": 0, "y": 0}, thing]
            refused(self, NoThings, {"found": records}, Turning, OLD, NEW, records)
        for thing in (({"x": 0, "y": 0},), [{"x": 0, "y": 0}] * 5, [{"x": 0}], [{"x": 0, "y": 256}], [{"x": 0, "y": 0, "z": 0}],
                      [{"x": True, "y": 0}]):
            refused(self, NoThings, {"found": thing}, Turning, OLD, NEW, thing)
        self.assertEqual(Turning(OLD, NEW, [{"y": 0, "x": 0}] * 4).many(), 4)

    def test_copies_are_held(self):
        records = [{"x": 1, "y": 2}]
        store = Turning(OLD, NEW, records)
        store.store(0, ("x",), 9)
        self.assertEqual(records, [{"x": 1, "y": 2}])
        records[0]["y"] = 7
        records.clear()
        self.assertEqual(store.records(), [{"x": 9, "y": 2}])
        store.records()[0]["x"] = 5
        self.assertEqual(store.records(), [{"x": 9, "y": 2}])
        self.assertTrue(is_apart(store.records(), store.records()))

    def test_two_of_them_have_nothing_in_common(self):
        one, other = simple(), simple()
        one.step(2)
        one.put()
        self.assertEqual((other.mark, other.moved, other.looks, other.places, other.many()), (0, [], [], [], 3))


class Steps(unittest.TestCase):

    def test_one_by_one(self):
        store = simple()
        for mark, told in ((1, 1), (2, 1), (3, 1), (4, 0), (4, 0)):
            self.assertFalse(store.is_turned() and mark < 4)
            self.assertEqual(store.step(1), told)
            self.assertEqual((store.mark, words(store)), (mark, [0, 1, 2]))
            self.assertIs(store.is_turned(), mark == 4)
        self.assertEqual(store.moved, [0, 1, 2])

    def test_none_several_and_too_many(self):
        for count, mark, told in ((0, 0, 0), (2, 2, 2), (3, 3, 3), (4, 4, 3), (5, 4, 3), (10 ** 29, 4, 3)):
            store = simple()
            self.assertEqual((store.step(count), store.mark, store.moved), (told, mark, list(range(told))))
            self.assertEqual((words(store), store.is_turned()), ([0, 1, 2], mark == 4))

    def test_unit_by_unit_to_the_new_room(self):
        store = simple()
        store.step(2)
        self.assertEqual(store.rooms[1].cells(), [0, 0, 1, 0, 0] + [0] * 6 + [10, 0] + [0] * 7)
        store.step(9)
        self.assertEqual(store.rooms[1].cells(), [0, 0, 1, 2, 0] + [0] * 6 + [10, 0, 20, 0] + [0] * 5)

    def test_of_no_things(self):
        store = simple(0)
        self.assertEqual((store.step(2), store.mark, store.moved), (0, 2, []))
        self.assertEqual(store.put(), 0)
        self.assertEqual((store.step(2), store.moved, store.is_turned()), (0, [], True))

    def test_things_that_are_put_below_the_mark_are_not_moved(self):
        store = simple(1)
        store.step(2)
        store.put()
        store.put()
        self.assertEqual((store.step(2), store.moved), (1, [0, 2]))

    def test_steps_are_no_looks(self):
        store = simple()
        store.step(1)
        self.assertEqual((store.looks, store.places), ([], []))

    def test_what_is_no_step(self):
        store = simple()
        store.step(1)
        for thing in NO_COUNTS:
            refused(self, NoTurn, {"found": thing}, store.step, thing)
        self.assertEqual((store.mark, store.moved), (1, [0]))

    def test_sixty_four_things(self):
        old, new = read_laying(SIMPLE, by_thing(SIMPLE, 64)), read_laying(SIMPLE, by_field(SIMPLE, 64))
        store = Turning(old, new, [{"x": number, "y": number} for number in range(64)])
        self.assertEqual([store.step(count) for count in (63, 0, 1)], [63, 0, 1])
        self.assertEqual((store.moved, store.is_turned(), words(store)), (list(range(64)), True, list(range(64))))

    def test_when_it_is_turned_all_lies_in_the_new_room(self):
        store = simple()
        store.step(2)
        store.put()
        store.take(0)
        store.copy(1, 2)
        store.step(4)
        before = store.records()
        for cell in range(12):
            store.rooms[0].left((cell, 0, 8), 255)
        self.assertEqual(store.records(), before)


class Sides(unittest.TestCase):

    def test_look_and_store(self):
        store = simple()
        store.step(1)
        store.look(0, ("x",))
        store.look(1, ("x",))
        store.store(0, ("y",), 258)
        store.store(2, ("y",), 9)
        self.assertEqual(store.places, [[(1, (9, 0, 16))], [(0, (3, 0, 16))], [(1, (1, 0, 8))], [(0, (8, 0, 8))]])
        self.assertEqual(store.looks, [("look", 0, "x", 0), ("look", 1, "x", 10), ("store", 0, "y", 2), ("store", 2, "y", 9)])

    def test_put_on_either_side(self):
        store = simple()
        store.put()
        self.assertEqual(store.places, [[(0, (9, 0, 16)), (0, (11, 0, 8))]])
        store = simple()
        store.step(4)
        store.put()
        self.assertEqual(store.places, [[(1, (15, 0, 16)), (1, (4, 0, 8))]])
        self.assertEqual(store.moved, [0, 1, 2])

    def test_a_put_thing_is_blank_on_either_side(self):
        store = simple(4)
        store.step(4)
        store.take(3)
        self.assertEqual(store.put(), 3)
        self.assertEqual(store.records()[3], {"x": 0, "y": 0})

    def test_copies_across_the_mark(self):
        store = simple()
        store.step(1)
        self.assertIsNone(store.copy(0, 2))
        self.assertIsNone(store.copy(1, 0))
        self.assertIsNone(store.copy(0, 0))
        self.assertEqual(words(store), [2, 2, 2])
        self.assertEqual(store.places, [
            [(0, (6, 0, 16)), (1, (9, 0, 16)), (0, (8, 0, 8)), (1, (1, 0, 8))],
            [(1, (9, 0, 16)), (0, (3, 0, 16)), (1, (1, 0, 8)), (0, (5, 0, 8))],
            [(1, (9, 0, 16)), (1, (9, 0, 16)), (1, (1, 0, 8)), (1, (1, 0, 8))]])
        self.assertEqual((store.mark, store.moved), (1, [0]))

    def test_takes_across_the_mark(self):
        store = simple()
        store.step(2)
        self.assertEqual(store.take(0), 2)
        self.assertEqual(store.take(1), 1)
        self.assertEqual(words(store), [2])
        self.assertEqual(store.places, [[(0, (6, 0, 16)), (1, (9, 0, 16)), (0, (8, 0, 8)), (1, (1, 0, 8))], []])
        self.assertEqual((store.mark, store.moved), (2, [0, 1]))
        store.step(2)
        self.assertEqual(store.moved, [0, 1])

    def test_choices_on_either_side(self):
        old, new = read_laying(PICKED, by_thing(PICKED, 2)), read_laying(PICKED, packed(PICKED, 2))
        store = Turning(old, new, [blank(PICKED.main()), blank(PICKED.main())])
        store.step(1)
        for thing in (0, 1):
            store.choose(thing, ("v", "d", "u"), 1)
            store.store(thing, ("v", "d", "u", "a", "p"), 200 + thing)
            store.which(thing, ("w", 1, "r"))
        self.assertEqual(store.places, [
            [(1, (28, 0, 2)), (1, (4, 0, 32)), (1, (3, 0, 8))],
            [(1, (28, 0, 2)), (1, (3, 0, 8)), (1, (4, 0, 8))],
            [(1, (28, 4, 2))],
            [(0, (17, 0, 8)), (0, (22, 0, 32)), (0, (21, 0, 8))],
            [(0, (17, 0, 8)), (0, (21, 0, 8)), (0, (22, 0, 8))],
            [(0, (30, 0, 8))]])
        store.copy(0, 1)
        self.assertEqual(store.look(0, ("v", "d", "u", "a", "p")), 201)

    def test_what_is_refused_changes_nothing(self):
        store = Turning(read_laying(PICKED, by_thing(PICKED, 2)), read_laying(PICKED, packed(PICKED, 2)), [blank(PICKED.main())] * 2)
        store.step(1)
        before = [room.cells() for room in store.rooms]
        for thing in (0, 1):
            refused(self, Other, {"found": "b"}, store.look, thing, ("v", "b", "q"))
            refused(self, Beyond, {"found": 2}, store.look, thing, ("w", 2, "s"))
            refused(self, Beyond, {"found": 2}, store.choose, thing, ("v",), 2)
            refused(self, Beyond, {"found": None}, store.choose, thing, ("v",), None)
            for steps in ODD + [("v",), ["w", 0, "s"], ("w", True, "s")]:
                refused(self, NoPath, {"path": steps}, store.look, thing, steps)
                refused(self, NoPath, {"path": steps}, store.store, thing, steps, 1)
            for steps in ODD + [("w",), ["v"]]:
                refused(self, NoPath, {"path": steps}, store.which, thing, steps)
                refused(self, NoPath, {"path": steps}, store.choose, thing, steps, 9)
            for other in [thing for thing in ODD if isinstance(thing, bool) or thing not in (0, 1)]:
                refused(self, Beyond, {"found": other}, store.copy, thing, other)
                refused(self, Beyond, {"found": other}, store.copy, other, thing)
                refused(self, Beyond, {"found": other}, store.take, other)
                refused(self, Beyond, {"found": other}, store.look, other, ("w", 0, "s"))
        refused_at(self, TooMuch, {"line": -1}, store.put)
        self.assertEqual(([room.cells() for room in store.rooms], store.looks, store.places), (before, [], []))
        self.assertEqual((store.mark, store.moved, store.many()), (1, [0], 2))

    def test_inner_methods(self):
        store = simple()
        store.step(1)
        self.assertEqual([store.word_at(thing, ("x",)) for thing in range(3)], [0, 10, 20])
        self.assertEqual(store.word_set(0, ("y",), 257), 1)
        self.assertIsNone(store.copied_over(2, 0))
        self.assertEqual(store.blank_put(), 3)
        self.assertEqual(store.last_taken(0), 3)
        self.assertEqual((store.looks, words(store)), ([], [0, 1, 1]))


class Paces(unittest.TestCase):

    # Of three things: two looks and the loop's look for each of them, and the last look: ten rows.
    PROGRAM = read_program(SIMPLE, "each i\na = look i x\nout a\nend")

    def done(self, steps, budget=99, store=None):
        store = store or simple()
        told = run_turning(self.PROGRAM, store, {}, budget, steps)
        self.assertEqual(store.pace, [])
        return told, store

    def test_a_step_ahead_of_each_row(self):
        # Ahead of the look at the thing i, 1 + 3 * i rows are done.
        told, store = self.done([0, 1])
        self.assertEqual(store.places, [[(1, (9, 0, 16))], [(0, (3, 0, 16))], [(0, (6, 0, 16))]])
        told, store = self.done([0, 0, 1])
        self.assertEqual(store.places, [[(0, (0, 0, 16))], [(0, (3, 0, 16))], [(0, (6, 0, 16))]])
        told, store = self.done([0, 0, 1, 0, 1])
        self.assertEqual(store.places, [[(0, (0, 0, 16))], [(1, (11, 0, 16))], [(0, (6, 0, 16))]])
        told, store = self.done([4])
        self.assertEqual(store.places, [[(1, (9, 0, 16))], [(1, (11, 0, 16))], [(1, (13, 0, 16))]])
        self.assertIsInstance(told, Run)
        self.assertEqual((told.outs, told.fault, told.done, told.lines), ([0, 10, 20], None, 10, [1, 1, 1]))

    def test_paces_shorter_and_longer_than_the_run(self):
        for steps, mark, moved in (([], 0, []), ([1], 1, [0]), ([0] * 9 + [1], 1, [0]), ([0] * 10 + [1], 0, []),
                                   ([0] * 9 + [2, 1, 1], 2, [0, 1]), ([10 ** 29] * 40, 4, [0, 1, 2]), ([1] * 40, 4, [0, 1, 2])):
            told, store = self.done(steps)
            self.assertEqual((store.mark, store.moved, told.outs, told.done), (mark, moved, [0, 10, 20], 10))

    def test_the_budget_is_looked_at_ahead_of_the_step(self):
        for budget in (0, 1, 3):
            told, store = self.done([1] * 9, budget)
            self.assertEqual((store.mark, told.done, told.fault[0]), (budget, budget, "budget"))

    def test_a_run_without_a_pace(self):
        store = simple()
        self.assertEqual(run(self.PROGRAM, store, {}, 99).outs, [0, 10, 20])
        self.assertEqual((store.mark, store.pace), (0, []))

    def test_the_pace_of_one_run_alone(self):
        told, store = self.done([1, 0, 0, 0, 0, 0, 0, 0, 0, 0, 3])
        self.assertEqual(run(self.PROGRAM, store, {}, 99).outs, [0, 10, 20])
        self.assertEqual((store.mark, store.moved), (1, [0]))
        told, store = self.done([1], store=store)
        self.assertEqual((store.mark, store.moved, len(store.looks)), (2, [0, 1], 9))

    def test_the_steps_stay(self):
        steps = [1, 2]
        told, store = self.done(steps)
        self.assertEqual(steps, [1, 2])
        store.pace.append(7)
        self.assertEqual(steps, [1, 2])

    def test_the_pace_is_there_while_it_runs(self):
        seen = []

        class Watched(Turning):

            def ahead(self, done):
                seen.append((list(self.pace), self.pace is steps))
                Turning.ahead(self, done)

        steps = [1, 0]
        store = Watched(OLD, NEW, [])
        run_turning(self.PROGRAM, store, {}, 9, steps)
        self.assertEqual((seen, store.mark, store.pace), ([([1, 0], False)], 1, []))

    def test_what_is_no_list_of_steps(self):
        store = simple()
        things = [thing for thing in ODD if not isinstance(thing, list)] + [(1,), {0: 1}, "1", [[1]]]
        for thing in things + [[other] for other in NO_COUNTS] + [[1, 2, other] for other in NO_COUNTS]:
            refused(self, NoTurn, {"found": thing}, run_turning, self.PROGRAM, store, {}, 9, thing)
            refused(self, NoTurn, {"found": thing}, run_turning, self.PROGRAM, store, {"zz": 0}, -1, thing)
        self.assertEqual((store.mark, store.pace, store.looks), (0, [], []))

    def test_what_a_run_refuses(self):
        store = simple()
        refused_at(self, NoInput, {"name": "zz"}, run_turning, self.PROGRAM, store, {"zz": 0}, -1, [1])
        refused_at(self, NoInput, {"name": "a"}, run_turning, self.PROGRAM, store, {"a": True}, 9, [1])
        for thing in [thing for thing in ODD if isinstance(thing, bool) or not isinstance(thing, int)] + [-1, 5001]:
            refused(self, NoBudget, {"found": thing}, run_turning, self.PROGRAM, store, {}, thing, [1])
            self.assertEqual((store.mark, store.pace, store.looks), (0, [], []))

    def test_a_fault_ends_it_alike(self):
        program = read_program(SIMPLE, "a = put\na = put\nout a")
        store, other = simple(), Plain(SIMPLE, 4, simple().records())
        told, wanted = run_turning(program, store, {}, 9, [1, 1, 1]), run(program, other, {}, 9)
        self.assertEqual((told.fault, told.done), (("full", 1), 2))
        self.assertEqual(vars(told), vars(wanted))
        self.assertEqual((store.mark, store.pace), (2, []))


def coded(cell_places, side):
    """The places with the side in their cells' numbers, so that sums of cells keep it."""
    return {key: (100000 * side + cell, shift, bits) for key, (cell, shift, bits) in cell_places.items()}


def sided(place):
    """A place that bears its side in its cell's number, as a Turning tells it."""
    cell, shift, bits = place
    return (cell // 100000, (cell % 100000, shift, bits))


class Drawn(unittest.TestCase):

    def test_the_same_deeds_as_of_a_plain_store_whatever_steps_are_done(self):
        kinds = set()
        for seed in range(60):
            dice = random.Random(seed)
            shapes = read_shapes(some_text(seed))
            things = dice.choice([1, 2, 5])
            texts = [some_laying(shapes.main(), dice, things) for number in range(2)]
            records = [some_record(shapes.main(), dice) for number in range(dice.randint(0, things))]
            store = Turning(*[read_laying(shapes, text) for text in texts], records)
            other = Plain(shapes, things, records)
            at = [coded(spots(shapes, text), side) for side, text in enumerate(texts)]
            for number in range(60):
                if dice.random() < 0.1:
                    kinds.add(self.one_step(store, dice.choice([0, 1, 1, 1, 2, 9])))
                kinds.add(self.one_deed(at, store, other, some_deed(shapes.main(), dice, other.many())))
                self.rooms_are(shapes, texts, store, other.records())
            self.assertEqual(plain(store.looks), plain(other.looks))
            self.assertEqual(sorted(set(store.moved)), store.moved)
        self.assertEqual(kinds, {"look", "store", "which", "choose", "copy", "put", "take", "refused", "step", "turned"})

    def one_step(self, store, count):
        mark, moved, places, looks = store.mark, list(store.moved), copy.deepcopy(store.places), list(store.looks)
        wanted = [thing for thing in range(mark, min(mark + count, store.most())) if thing < store.many()]
        self.assertEqual(store.step(count), len(wanted))
        self.assertEqual((store.mark, store.moved), (min(mark + count, store.most()), moved + wanted))
        self.assertEqual((store.places, store.looks), (places, looks))
        self.assertIs(store.is_turned(), store.mark == store.most())
        return "turned" if store.is_turned() else "step"

    def one_deed(self, at, store, other, deed):
        now = {key: at[1 if key[1] < store.mark else 0][key] for key in at[0]}
        before, places, records = [room.cells() for room in store.rooms], copy.deepcopy(store.places), other.records()
        mark, moved = store.mark, list(store.moved)
        told = outcome(other, deed)
        self.assertEqual(outcome(store, deed), told, deed)
        self.assertEqual((store.records(), store.many()), (other.records(), other.many()))
        self.assertEqual((store.mark, store.moved), (mark, moved))
        if told[0] == "(":
            self.assertEqual(([room.cells() for room in store.rooms], store.places), (before, places))
            return "refused"
        record = records[deed[1]] if len(deed) > 1 else None
        number = int(told) if told != "None" else None
        wanted = [sided(place) for place in touched(store.shapes, now, record, deed, number)]
        self.assertEqual(store.places, places + [wanted], deed)
        for side, room in enumerate(store.rooms):
            had = set().union(*[bits_of(place) for own, place in wanted if own == side])
            self.assertLessEqual(bits_in(before[side]) ^ bits_in(room.cells()), had, deed)
        return deed[0]

    def rooms_are(self, shapes, texts, store, records):
        """Each thing lies whole in the room on its side of the mark."""
        units = [unit for unit, width, sort in shapes.main().units()]
        for side, text in enumerate(texts):
            at = spots(shapes, text)
            numbers = [thing for thing in range(len(records)) if (thing < store.mark) == (side == 1)]
            there = set().union(*[bits_of(at[unit, thing]) for unit in units for thing in numbers])
            rows = {(path, new): at[path, thing] for new, thing in enumerate(numbers) for path, own in at if own == thing}
            self.assertEqual(bits_in(store.rooms[side].cells()) & there,
                             wanted_bits(shapes, rows, [records[thing] for thing in numbers]))

    def test_the_same_runs_on_all_stores(self):
        faults = set()
        for seed in range(150):
            dice = random.Random(seed)
            shapes = read_shapes(some_text(seed))
            main, things = shapes.main(), dice.choice([1, 3, 6])
            texts = [some_laying(main, dice, things), by_thing(shapes, things, 8), by_field(shapes, things),
                     by_blocks(shapes, things, 2), packed(shapes, things)]
            layings = [read_laying(shapes, text) for text in texts]
            records = [some_record(main, dice) for number in range(dice.randint(0, things))]
            program = read_program(shapes, some_program(main, dice))
            inputs = {name: dice.choice([0, 1, 2, 70000]) for name in program.names() if dice.random() < 0.3}
            budget = dice.choice([0, 3, 40, 400])
            wanted = Plain(shapes, things, records)
            told = run(program, wanted, inputs, budget)
            faults.add(told.fault and told.fault[0])
            for laying in layings:
                cells = Cells(laying, records)
                self.same(program, (told, wanted), (run(program, cells, inputs, budget), cells))
            for number in range(3):
                store = Turning(dice.choice(layings), dice.choice(layings), records)
                steps = [dice.choice([0, 0, 0, 1, 1, 2]) for place in range(dice.choice([0, 4, 20, 500]))]
                self.same(program, (told, wanted), (run_turning(program, store, inputs, budget, steps), store))
                self.assertEqual(store.mark, min(things, sum(steps[:told.done])))
        self.assertEqual(faults, {None, "budget", "beyond", "other", "full"})

    def same(self, program, one, other):
        """The same words, fault and lines, and the same looks, each with its places, and things behind."""
        self.assertEqual(plain(vars(other[0])), plain(vars(one[0])), program.text())
        self.assertEqual(plain(other[1].looks), plain(one[1].looks))
        self.assertEqual(other[1].records(), one[1].records())
        self.assertEqual(len(other[1].places), len(other[1].looks))


if __name__ == "__main__":
    unittest.main()
