"""Stores: what their deeds tell, do and refuse, the looks that they keep, and stores that hold records."""

import copy
import random
import unittest

from roomslaid.errors import Beyond, NoPath, NoThings, Other, TooMuch
from roomslaid.records import blank, chosen, is_record, look_at, stored, which_at
from roomslaid.shapetext import read_shapes
from roomslaid.stores import Plain, Store
from tests.helper import (
    DRAWING, ODD, PICKS, is_apart, outcome, plain, refused, refused_at, some_deed, some_record, some_text, with_thing)

FIGURES = read_shapes(DRAWING)
PICKED = read_shapes(PICKS)
FIGURE = {
    "what": (1, {"mid": {"x": 300, "y": 7}, "r": 70000}),
    "rows": [1, 2, 65535],
    "dots": [{"x": 5, "y": 6}, {"x": 8, "y": 9}],
    "n": 16777215,
    "dot": {"x": 3, "y": 4},
}
CHOICES = {
    "v": (0, {"t": 9, "u": (0, {"r": (1, {"q": 513}), "s": 3})}),
    "w": [{"r": (0, {"p": 1}), "s": 2}, {"r": (1, {"q": 4}), "s": 5}],
}


def figures(many, most=9):
    """A store of so many figures, the n of each being its number."""
    return Plain(FIGURES, most, [dict(copy.deepcopy(FIGURE), n=number) for number in range(many)])


def choices(most=9):
    """A store of one thing with picks within picks."""
    return Plain(PICKED, most, [copy.deepcopy(CHOICES)])


class Made(unittest.TestCase):

    def test_what_a_store_tells(self):
        store = figures(3)
        self.assertIsInstance(store, Store)
        self.assertIs(store.shapes, FIGURES)
        self.assertEqual((store.many(), store.most(), store.looks), (3, 9, []))
        self.assertEqual(store.records(), [dict(FIGURE, n=number) for number in range(3)])

    def test_no_thing_one_and_most(self):
        for many, most in ((0, 1), (1, 1), (0, 64), (1, 64), (64, 64), (63, 64)):
            store = figures(many, most)
            self.assertEqual((store.many(), store.most(), len(store.records())), (many, most, many))

    def test_too_many_records(self):
        for many, most in ((2, 1), (65, 64), (3, 2), (64, 63)):
            records = [copy.deepcopy(FIGURE) for number in range(many)]
            refused(self, NoThings, {"found": records}, Plain, FIGURES, most, records)

    def test_what_is_no_list_of_records(self):
        for thing in ODD:
            if thing == []:
                Plain(FIGURES, 2, thing)
            else:
                refused(self, NoThings, {"found": thing}, Plain, FIGURES, 2, thing)
        for thing in ODD:
            records = [copy.deepcopy(FIGURE), thing]
            refused(self, NoThings, {"found": records}, Plain, FIGURES, 2, records)
            records = [thing, copy.deepcopy(FIGURE)]
            refused(self, NoThings, {"found": records}, Plain, FIGURES, 2, records)
        for thing in ((FIGURE,), FIGURE, {0: FIGURE}, [[FIGURE]], [(FIGURE,)], [dict(FIGURE, n=True)], [dict(FIGURE, n=1 << 24)],
                      [dict(FIGURE, z=0)], [dict(FIGURE, what=[1, FIGURE["what"][1]])], [CHOICES], [FIGURE, CHOICES]):
            refused(self, NoThings, {"found": thing}, Plain, FIGURES, 2, thing)

    def test_a_thing_within_a_record(self):
        for steps in (("what", 1, "r"), ("rows", 0), ("dots", 1), ("dot",), ("n",)):
            for thing in (None, True, -1, 1 << 32, "0", [], (0,)):
                records = [with_thing(FIGURE, steps, thing)]
                refused(self, NoThings, {"found": records}, Plain, FIGURES, 2, records)

    def test_copies_are_held(self):
        one = copy.deepcopy(FIGURE)
        records = [one, one]
        store = Plain(FIGURES, 3, records)
        one["rows"][0] = 9
        one["what"][1]["mid"]["x"] = 9
        one["dots"].clear()
        records.clear()
        self.assertEqual(store.records(), [FIGURE, FIGURE])
        store.store(0, ("rows", 0), 4)
        self.assertEqual(store.look(1, ("rows", 0)), 1)

    def test_the_handed_in_stays(self):
        records = [copy.deepcopy(FIGURE)]
        store = Plain(FIGURES, 3, records)
        store.store(0, ("rows", 0), 4)
        store.choose(0, ("what",), 0)
        store.put()
        store.take(0)
        self.assertEqual(records, [FIGURE])

    def test_records_are_new_each_time(self):
        store = figures(2)
        told = store.records()
        self.assertTrue(is_apart(told, store.records(), store.records()))
        told[0]["dots"][0]["x"] = 77
        told.clear()
        self.assertEqual(store.records(), [dict(FIGURE, n=number) for number in range(2)])

    def test_two_stores_have_nothing_in_common(self):
        records = [copy.deepcopy(FIGURE)]
        one, other = Plain(FIGURES, 3, records), Plain(FIGURES, 3, records)
        one.store(0, ("n",), 5)
        one.put()
        self.assertEqual((other.records(), other.looks), (records, []))


class Words(unittest.TestCase):

    def test_look(self):
        store = figures(2)
        for steps, word in ((("n",), 1), (("rows", 2), 65535), (("dots", 1, "y"), 9), (("what", "circ", "mid", "x"), 300),
                            (("what", "circ", "r"), 70000), (("dot", "x"), 3)):
            self.assertEqual(store.look(1, steps), word)
        self.assertEqual(store.looks, [
            ("look", 1, "n", 1), ("look", 1, "rows.2", 65535), ("look", 1, "dots.1.y", 9), ("look", 1, "what.circ.mid.x", 300),
            ("look", 1, "what.circ.r", 70000), ("look", 1, "dot.x", 3)])

    def test_store(self):
        store = figures(2)
        self.assertEqual(store.store(0, ("rows", 1), 70), 70)
        self.assertEqual(store.look(0, ("rows", 1)), 70)
        self.assertEqual(store.records(), [dict(FIGURE, n=0, rows=[1, 70, 65535]), dict(FIGURE, n=1)])
        self.assertEqual(store.looks, [("store", 0, "rows.1", 70), ("look", 0, "rows.1", 70)])

    def test_the_rest_is_stored(self):
        for word in (0, 255, 256, 65535, 65536, 2 ** 24, 2 ** 32, 10 ** 29, -1, -256, -(10 ** 29)):
            for steps, width in ((("n",), 3), (("rows", 0), 2), (("dot", "y"), 1), (("what", "circ", "r"), 4)):
                store = figures(1)
                rest = word % 256 ** width
                self.assertEqual(store.store(0, steps, word), rest)
                self.assertEqual(store.looks, [("store", 0, ".".join(map(str, steps)), rest)])
                self.assertEqual(store.look(0, steps), rest)

    def test_in_picks_within_picks_and_rows(self):
        store = choices()
        self.assertEqual(store.store(0, ("v", "d", "u", "c", "r", "b", "q"), 70000), 70000 - 65536)
        self.assertEqual(store.store(0, ("w", 1, "r", "b", "q"), 7), 7)
        self.assertEqual(store.look(0, ("v", "d", "u", "c", "s")), 3)
        self.assertEqual(store.looks, [("store", 0, "v.d.u.c.r.b.q", 4464), ("store", 0, "w.1.r.b.q", 7),
                                       ("look", 0, "v.d.u.c.s", 3)])
        self.assertEqual(store.records()[0]["v"][1]["u"][1]["r"], (1, {"q": 4464}))
        self.assertEqual(store.records()[0]["w"][1], {"r": (1, {"q": 7}), "s": 5})


class Choices(unittest.TestCase):

    def test_which(self):
        store = choices()
        for steps, number in ((("v",), 0), (("v", "d", "u"), 0), (("v", "d", "u", "c", "r"), 1), (("w", 0, "r"), 0),
                              (("w", 1, "r"), 1)):
            self.assertEqual(store.which(0, steps), number)
        self.assertEqual(store.looks[2:], [("which", 0, "v.d.u.c.r", 1), ("which", 0, "w.0.r", 0), ("which", 0, "w.1.r", 1)])

    def test_choose(self):
        store = choices()
        self.assertEqual(store.choose(0, ("v", "d", "u"), 1), 1)
        self.assertEqual(store.records()[0]["v"], (0, {"t": 9, "u": (1, {"p": 0})}))
        self.assertEqual(store.choose(0, ("v",), 1), 1)
        self.assertEqual(store.records()[0]["v"], (1, {"q": 0}))
        self.assertEqual(store.choose(0, ("v",), 0), 0)
        self.assertEqual(store.records()[0]["v"], (0, {"t": 0, "u": (0, {"r": (0, {"p": 0}), "s": 0})}))
        self.assertEqual(store.looks, [("choose", 0, "v.d.u", 1), ("choose", 0, "v", 1), ("choose", 0, "v", 0)])

    def test_the_same_number_again(self):
        store = figures(1)
        self.assertEqual(store.choose(0, ("what",), 1), 1)
        self.assertEqual(store.records()[0]["what"], (1, {"mid": {"x": 0, "y": 0}, "r": 0}))

    def test_numbers_of_no_shape(self):
        for number in ODD + [2, 3, -2, "line"]:
            if number in (0, 1) and not isinstance(number, bool):
                continue
            store = figures(1)
            refused(self, Beyond, {"found": number}, store.choose, 0, ("what",), number)
            self.assertEqual((store.records(), store.looks), ([dict(FIGURE, n=0)], []))


class Things(unittest.TestCase):

    def test_copy(self):
        store = figures(3)
        self.assertIsNone(store.copy(0, 2))
        self.assertEqual([record["n"] for record in store.records()], [2, 1, 2])
        store.store(0, ("rows", 0), 50)
        store.store(2, ("dot", "x"), 60)
        self.assertEqual(store.look(2, ("rows", 0)), 1)
        self.assertEqual(store.look(0, ("dot", "x")), 3)
        self.assertEqual(store.looks[0], ("copy", 0, "", 2))
        self.assertTrue(is_apart(store.records()))

    def test_copy_onto_itself(self):
        store = figures(2)
        self.assertIsNone(store.copy(1, 1))
        self.assertEqual(store.records(), [dict(FIGURE, n=0), dict(FIGURE, n=1)])
        self.assertEqual(store.looks, [("copy", 1, "", 1)])

    def test_put(self):
        store = figures(1, 3)
        self.assertEqual((store.put(), store.put()), (1, 2))
        self.assertEqual(store.records(), [dict(FIGURE, n=0), blank(FIGURES.main()), blank(FIGURES.main())])
        self.assertEqual(store.looks, [("put", 1, "", 0), ("put", 2, "", 0)])
        store.store(1, ("n",), 5)
        self.assertEqual(store.look(2, ("n",)), 0)

    def test_put_where_there_is_no_room(self):
        for many in (1, 2, 64):
            store = figures(many, many)
            refused_at(self, TooMuch, {"line": -1}, store.put)
            self.assertEqual((store.many(), store.looks), (many, []))
            store.take(0)
            self.assertEqual(store.put(), many - 1)

    def test_take(self):
        store = figures(4)
        self.assertEqual(store.take(1), 3)
        self.assertEqual([record["n"] for record in store.records()], [0, 3, 2])
        self.assertEqual(store.take(2), 2)
        self.assertEqual([record["n"] for record in store.records()], [0, 3])
        self.assertEqual(store.take(0), 1)
        self.assertEqual(store.take(0), 0)
        self.assertEqual((store.many(), store.records()), (0, []))
        self.assertEqual(store.looks, [("take", 1, "", 3), ("take", 2, "", 2), ("take", 0, "", 1), ("take", 0, "", 0)])

    def test_what_was_taken_is_blank_when_it_is_put_again(self):
        store = figures(2)
        store.take(1)
        store.put()
        self.assertEqual(store.records()[1], blank(FIGURES.main()))

    def test_many_most_and_records_are_no_looks(self):
        store = figures(2)
        self.assertEqual((store.many(), store.most(), len(store.records())), (2, 9, 2))
        self.assertEqual(store.looks, [])


class Refused(unittest.TestCase):

    def deeds(self, store):
        return ((store.look, (("n",),)), (store.store, (("n",), 1)), (store.which, (("what",),)),
                (store.choose, (("what",), 1)), (store.take, ()))

    def test_things_that_there_are_not(self):
        for many in (0, 1, 3):
            store = figures(many)
            for thing in ODD + [many, many + 1, 64, -many, "0", (0,), [0]]:
                if isinstance(thing, int) and not isinstance(thing, bool) and 0 <= thing < many:
                    continue
                for deed, handed in self.deeds(store):
                    refused(self, Beyond, {"found": thing}, deed, thing, *handed)
                refused(self, Beyond, {"found": thing}, store.copy, thing, 0)
                if many:
                    refused(self, Beyond, {"found": thing}, store.copy, 0, thing)
            self.assertEqual((store.many(), store.looks), (many, []))

    def test_the_thing_is_refused_ahead_of_the_other(self):
        store = figures(1)
        refused(self, Beyond, {"found": "a"}, store.copy, "a", "b")
        refused(self, Beyond, {"found": 7}, store.copy, 7, 8)

    def test_the_thing_is_refused_ahead_of_steps(self):
        store = figures(1)
        refused(self, Beyond, {"found": 1}, store.look, 1, None)
        refused(self, Beyond, {"found": 1}, store.store, 1, ("z",), 0)
        refused(self, Beyond, {"found": 1}, store.which, 1, ("n",))
        refused(self, Beyond, {"found": 1}, store.choose, 1, ("n",), 7)

    def test_steps_that_lead_to_none(self):
        store = figures(1)
        wrong = [thing for thing in ODD] + [
            ("z",), ["n"], "n", ("rows",), ("rows", -1), ("rows", True), ("rows", "0"), ("dots", 0), ("dot",), ("what", "tag"),
            ("what", "dot"), ("what", "circ"), ("n", "n"), ("rows", 0, 0), ("what", 1), (), ("rows", None), ("what", "line", "r")]
        for steps in wrong + [("what",)]:
            refused(self, NoPath, {"path": steps}, store.look, 0, steps)
            refused(self, NoPath, {"path": steps}, store.store, 0, steps, 1)
        for steps in wrong + [("n",), ("rows", 0), ("dot", "x"), ("what", "circ", "r"), ("what", "line", "to", "x")]:
            refused(self, NoPath, {"path": steps}, store.which, 0, steps)
            refused(self, NoPath, {"path": steps}, store.choose, 0, steps, 1)
        self.assertEqual((store.records(), store.looks), ([dict(FIGURE, n=0)], []))

    def test_elements_that_the_row_has_not(self):
        store = figures(1)
        for step in (3, 4, 64, 10 ** 29):
            refused(self, Beyond, {"found": step}, store.look, 0, ("rows", step))
            refused(self, Beyond, {"found": step}, store.store, 0, ("rows", step), 1)
            refused(self, Beyond, {"found": step}, store.look, 0, ("dots", step, "x"))
        store = choices()
        for step in (2, 3, 10 ** 29):
            refused(self, Beyond, {"found": step}, store.which, 0, ("w", step, "r"))
            refused(self, Beyond, {"found": step}, store.choose, 0, ("w", step, "r"), 0)
            refused(self, Beyond, {"found": step}, store.look, 0, ("w", step, "r", "b", "q"))
        self.assertEqual((store.records(), store.looks), ([CHOICES], []))

    def test_shapes_that_are_not_chosen(self):
        store = figures(1)
        refused(self, Other, {"found": "line"}, store.look, 0, ("what", "line", "to", "x"))
        refused(self, Other, {"found": "line"}, store.store, 0, ("what", "line", "to", "x"), 1)
        store = choices()
        refused(self, Other, {"found": "b"}, store.look, 0, ("v", "b", "q"))
        refused(self, Other, {"found": "a"}, store.look, 0, ("v", "d", "u", "a", "p"))
        refused(self, Other, {"found": "a"}, store.store, 0, ("v", "d", "u", "c", "r", "a", "p"), 1)
        refused(self, Other, {"found": "a"}, store.look, 0, ("w", 1, "r", "a", "p"))
        store.choose(0, ("v",), 1)
        refused(self, Other, {"found": "d"}, store.which, 0, ("v", "d", "u"))
        refused(self, Other, {"found": "d"}, store.choose, 0, ("v", "d", "u"), 0)
        refused(self, Other, {"found": "d"}, store.look, 0, ("v", "d", "u", "a", "p"))
        self.assertEqual(store.looks, [("choose", 0, "v", 1)])

    def test_the_order(self):
        store = choices()
        # By the shape alone first, then step by step, then the number.
        refused(self, NoPath, {"path": ("w", 9, "r", "z")}, store.look, 0, ("w", 9, "r", "z"))
        refused(self, NoPath, {"path": ("w", 9, "s")}, store.choose, 0, ("w", 9, "s"), 9)
        refused(self, Beyond, {"found": 9}, store.choose, 0, ("w", 9, "r"), 8)
        refused(self, Other, {"found": "c"}, Plain(PICKED, 1, [dict(CHOICES, v=(0, {"t": 0, "u": (1, {"p": 0})}))]).choose, 0,
                ("v", "d", "u", "c", "r"), 8)
        refused(self, Beyond, {"found": 8}, store.choose, 0, ("w", 1, "r"), 8)


class Counting(Store):
    """A store that keeps what is asked of the methods that each store puts otherwise."""

    def __init__(self, most):
        Store.__init__(self, FIGURES, most)
        self.asked = []
        self.things = 2

    def word_at(self, thing, steps):
        self.asked.append(("word_at", thing, steps))
        return 11

    def word_set(self, thing, steps, word):
        self.asked.append(("word_set", thing, steps, word))
        return 12

    def tag_at(self, thing, steps):
        self.asked.append(("tag_at", thing, steps))
        return 13

    def tag_set(self, thing, steps, number):
        self.asked.append(("tag_set", thing, steps, number))
        return 14

    def copied_over(self, thing, other):
        self.asked.append(("copied_over", thing, other))

    def blank_put(self):
        self.asked.append(("blank_put",))
        return 15

    def last_taken(self, thing):
        self.asked.append(("last_taken", thing))
        return 16

    def many(self):
        return self.things

    def records(self):
        return []


class Inner(unittest.TestCase):

    def test_each_deed_calls_the_one_that_belongs_to_it(self):
        store = Counting(3)
        told = [store.look(0, ("n",)), store.store(1, ("rows", 2), 99), store.which(0, ("what",)),
                store.choose(1, ("what",), 0), store.copy(1, 0), store.put(), store.take(1)]
        self.assertEqual(told, [11, 12, 13, 14, None, 15, 16])
        self.assertEqual(store.asked, [
            ("word_at", 0, ("n",)), ("word_set", 1, ("rows", 2), 99), ("tag_at", 0, ("what",)), ("tag_set", 1, ("what",), 0),
            ("copied_over", 1, 0), ("blank_put",), ("last_taken", 1)])
        self.assertEqual(store.looks, [
            ("look", 0, "n", 11), ("store", 1, "rows.2", 12), ("which", 0, "what", 13), ("choose", 1, "what", 14),
            ("copy", 1, "", 0), ("put", 15, "", 0), ("take", 1, "", 16)])

    def test_things_are_refused_ahead_of_them(self):
        store = Counting(2)
        for deed in ((store.look, 2, ()), (store.store, 2, (), 0), (store.which, 2, ()), (store.choose, 2, (), 0),
                     (store.copy, 2, 0), (store.copy, 0, 2), (store.take, 2)):
            refused(self, Beyond, {"found": 2}, *deed)
        refused_at(self, TooMuch, {"line": -1}, store.put)
        store.things = 3
        store.look(2, ("n",))
        self.assertEqual(store.asked, [("word_at", 2, ("n",))])

    def test_what_the_inner_method_refuses_is_no_look(self):
        class Refusing(Counting):
            def word_at(self, thing, steps):
                raise Other("z")
        store = Refusing(3)
        refused(self, Other, {"found": "z"}, store.look, 0, ("n",))
        self.assertEqual(store.looks, [])

    def test_those_of_a_plain_store(self):
        store = figures(2, 3)
        self.assertEqual(store.word_at(1, ("rows", 2)), 65535)
        self.assertEqual(store.word_set(1, ("rows", 2), 65537), 1)
        self.assertEqual(store.tag_at(0, ("what",)), 1)
        self.assertEqual(store.tag_set(0, ("what",), 0), 0)
        self.assertIsNone(store.copied_over(0, 1))
        self.assertEqual(store.blank_put(), 2)
        self.assertEqual(store.last_taken(0), 2)
        self.assertEqual(store.looks, [])
        self.assertEqual(store.records(), [blank(FIGURES.main()), dict(FIGURE, n=1, rows=[1, 2, 1])])
        refused(self, NoPath, {"path": ("z",)}, store.word_at, 0, ("z",))
        refused(self, NoPath, {"path": ("n",)}, store.tag_set, 0, ("n",), 0)
        refused(self, Beyond, {"found": 2}, store.tag_set, 0, ("what",), 2)

    def test_ahead_does_nothing(self):
        store = figures(1)
        self.assertIsNone(store.ahead(0))
        self.assertIsNone(Counting(2).ahead(5000))
        self.assertEqual((store.records(), store.looks), ([dict(FIGURE, n=0)], []))


class Model:
    """A store that holds records and does its deeds by the functions of records, written down once more."""

    def __init__(self, shape, most, records):
        self.shape, self.bound, self.held, self.looks = shape, most, copy.deepcopy(records), []

    def need(self, thing):
        if type(thing) is not int or thing not in range(len(self.held)):
            raise Beyond(thing)
        return self.held[thing]

    def note(self, word, thing, steps, number):
        self.looks.append((word, thing, ".".join(str(step) for step in steps), number))
        return number

    def look(self, thing, steps):
        return self.note("look", thing, steps, look_at(self.shape, self.need(thing), steps))

    def store(self, thing, steps, word):
        self.held[thing] = stored(self.shape, self.need(thing), steps, word)
        return self.note("store", thing, steps, look_at(self.shape, self.held[thing], steps))

    def which(self, thing, steps):
        return self.note("which", thing, steps, which_at(self.shape, self.need(thing), steps))

    def choose(self, thing, steps, number):
        self.held[thing] = chosen(self.shape, self.need(thing), steps, number)
        return self.note("choose", thing, steps, number)

    def copy(self, thing, other):
        self.need(thing)
        self.held[thing] = copy.deepcopy(self.need(other))
        self.note("copy", thing, (), other)

    def put(self):
        if len(self.held) == self.bound:
            raise TooMuch(-1)
        self.held.append(blank(self.shape))
        self.note("put", len(self.held) - 1, (), 0)
        return len(self.held) - 1

    def take(self, thing):
        self.need(thing)
        self.held[thing] = self.held[-1]
        self.held = self.held[:-1]
        return self.note("take", thing, (), len(self.held))


class Drawn(unittest.TestCase):

    def test_long_rows_of_deeds(self):
        kinds = set()
        for seed in range(60):
            dice = random.Random(seed)
            shapes = read_shapes(some_text(seed))
            most = dice.choice([1, 2, 5])
            records = [some_record(shapes.main(), dice) for number in range(dice.randint(0, most))]
            store, model = Plain(shapes, most, records), Model(shapes.main(), most, records)
            for number in range(80):
                deed = some_deed(shapes.main(), dice, store.many())
                handed = plain(deed)
                told = outcome(store, deed)
                self.assertEqual(told, outcome(model, deed), deed)
                self.assertEqual(plain(deed), handed)
                self.assertEqual(store.records(), model.held)
                self.assertTrue(all(is_record(shapes.main(), record) for record in store.records()))
                kinds.add(deed[0] if told[0] != "(" else told.split("'")[1])
            self.assertEqual(plain(store.looks), plain(model.looks))
        self.assertEqual(kinds, {"look", "store", "which", "choose", "copy", "put", "take", "Beyond", "NoPath", "Other", "TooMuch"})


if __name__ == "__main__":
    unittest.main()
