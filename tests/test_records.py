"""Records: which things are some, blank ones, copies, and steps that look, store and choose."""

import copy
import random
import unittest

from roomslaid.errors import Beyond, NoPath, NoRecord, Other
from roomslaid.records import blank, chosen, copied, is_record, kind_at, look_at, stored, which_at
from roomslaid.room import Room
from roomslaid.shapes import Kind, Many, Nested, Num, Pick, Shape
from roomslaid.shapetext import read_shapes
from tests.helper import DRAWING, ODD, PICKS, is_apart, plain, refused, some_record, some_text, with_thing

FIGURE = read_shapes(DRAWING).main()
PICKED = read_shapes(PICKS).main()


def figure():
    """A record of the shape fig, in which a circ is chosen."""
    return {
        "what": (1, {"mid": {"x": 300, "y": 7}, "r": 70000}),
        "rows": [1, 2, 65535],
        "dots": [{"x": 5, "y": 6}, {"x": 8, "y": 9}],
        "n": 16777215,
        "dot": {"x": 3, "y": 4},
    }


def picked():
    """A record of the shape e, three choices deep."""
    return {
        "v": (0, {"t": 9, "u": (0, {"r": (1, {"q": 513}), "s": 3})}),
        "w": [{"r": (0, {"p": 1}), "s": 2}, {"r": (1, {"q": 4}), "s": 5}],
    }


class IsRecord(unittest.TestCase):

    def test_records(self):
        self.assertIs(is_record(FIGURE, figure()), True)
        self.assertIs(is_record(PICKED, picked()), True)
        for seed in range(60):
            for shape in read_shapes(some_text(seed)).shapes:
                self.assertIs(is_record(shape, some_record(shape, random.Random(seed))), True)

    def test_of_shapes_that_are_not_the_main_one(self):
        shapes = read_shapes(DRAWING)
        self.assertIs(is_record(shapes.shape_of("dot"), {"x": 1, "y": 2}), True)
        self.assertIs(is_record(shapes.shape_of("line"), {"x": 1, "y": 2}), False)
        self.assertIs(is_record(shapes.shape_of("dot"), figure()), False)

    def test_of_shapes_made_by_hand(self):
        pick = Pick([Shape("b", [("z", Num(2))]), Shape("c", [("z", Num(1))])])
        shape = Shape("a", (("x", Many(2, Num(1))), ("y", pick)))
        self.assertIs(is_record(shape, {"x": [1, 2], "y": (0, {"z": 256})}), True)
        self.assertIs(is_record(shape, {"x": [1, 2], "y": (1, {"z": 256})}), False)

    def test_the_order_of_keys_is_not_looked_at(self):
        record = figure()
        turned = {name: record[name] for name in reversed(list(record))}
        turned["dot"] = {"y": 4, "x": 3}
        self.assertIs(is_record(FIGURE, turned), True)

    def test_one_dict_at_several_places(self):
        one = {"x": 1, "y": 2}
        record = dict(figure(), dots=[one, one], dot=one)
        self.assertIs(is_record(FIGURE, record), True)

    def test_words_at_their_bounds(self):
        for width in (1, 2, 3, 4):
            shape = read_shapes("shape a\nx num %d" % width).main()
            for word, wanted in ((-1, False), (0, True), (1, True), (256 ** width - 1, True), (256 ** width, False),
                                 (256 ** width + 1, False), (10 ** 29, False), (-(10 ** 29), False)):
                self.assertIs(is_record(shape, {"x": word}), wanted, (width, word))

    def test_any_thing_that_is_none(self):
        shape = read_shapes("shape a\nx num 1\nb num 1").main()
        for thing in ODD:
            self.assertIs(is_record(shape, thing), False, repr(thing))
        self.assertIs(is_record(read_shapes("shape b\na num 1").main(), {"a": 0}), True)

    def test_other_things_at_each_place(self):
        for steps in (("what",), ("what", 1), ("what", 1, "mid"), ("dots",), ("dots", 1), ("rows",), ("dot",), ("n",),
                      ("what", 1, "r"), ("rows", 2), ("dots", 0, "x"), ("dot", "y"), ("what", 1, "mid", "y")):
            for thing in ODD:
                told = is_record(FIGURE, with_thing(figure(), steps, thing))
                self.assertIs(told, is_word_for(steps, thing), (steps, thing))

    def test_a_key_more_less_or_other(self):
        for steps in ((), ("what", 1), ("what", 1, "mid"), ("dots", 0), ("dot",)):
            inner = figure()
            for step in steps:
                inner = inner[step]
            first = list(inner)[0]
            less = {name: inner[name] for name in inner if name != first}
            for changed in (dict(inner, z=0), less, dict(less, z=inner[first]), dict(less, **{"": inner[first]}), {},
                            {**less, 0: inner[first]}, {**less, None: inner[first]}, {**less, (first,): inner[first]},
                            {**inner, 0: 0}, {**inner, None: 0}, list(inner), list(inner.items()), tuple(inner)):
                self.assertIs(is_record(FIGURE, with_thing(figure(), steps, changed)), False)

    def test_an_element_more_or_less(self):
        for name in ("rows", "dots"):
            record = figure()
            items = record[name]
            for changed in (items[:-1], items + items[:1], [], tuple(items), dict(enumerate(items)), items[0]):
                self.assertIs(is_record(FIGURE, dict(record, **{name: changed})), False)

    def test_picks(self):
        line = {"from": {"x": 1, "y": 2}, "to": {"x": 3, "y": 4}}
        circle = {"mid": {"x": 1, "y": 2}, "r": 3}
        for choice, wanted in (
            ((0, line), True), ((1, circle), True), ((0, circle), False), ((1, line), False), ((2, line), False),
            ((2, circle), False), ((-1, circle), False), ((-2, line), False), ((False, line), False),
            ((True, circle), False), (("0", line), False), (("line", line), False), ((None, line), False),
            ([0, line], False), ((0, line, 0), False), ((0,), False), ((), False), (line, False), (0, False),
            ((line, 0), False), ((0, [line]), False), ((0, (0, line)), False), ((10 ** 29, line), False),
            (([0], line), False), (({}, line), False), ({0: line}, False),
        ):
            self.assertIs(is_record(FIGURE, dict(figure(), what=choice)), wanted, choice)

    def test_picks_of_four(self):
        text = "shape a\nx num 1\nshape b\nx num 1\nshape c\nx num 1\nshape d\nx num 1\nshape e\ny pick d b a c"
        shape = read_shapes(text).main()
        for number in range(-1, 6):
            self.assertIs(is_record(shape, {"y": (number, {"x": 1})}), 0 <= number < 4)

    def test_wrong_things_deep_within_choices(self):
        for steps in (("v", 1, "u", 1, "r", 1, "q"), ("v", 1, "u", 1, "s"), ("w", 1, "r", 1, "q"), ("w", 0, "r", 1, "p")):
            for word in (-1, 65536, True, None, "1", [1]):
                self.assertIs(is_record(PICKED, with_thing(picked(), steps, word)), False)
        self.assertIs(is_record(PICKED, with_thing(picked(), ("v", 1, "u", 0), 1)), False)

    def test_nothing_is_changed(self):
        record = figure()
        is_record(FIGURE, record)
        self.assertEqual(plain(record), plain(figure()))


def is_word_for(steps, thing):
    """Whether this thing is a word that is let by at these steps of a figure."""
    widths = {"n": 3, "r": 4, 2: 2, "x": 2, "y": 1}
    return type(thing) is int and steps[-1] in widths and 0 <= thing < 256 ** widths[steps[-1]]


class Blank(unittest.TestCase):

    def test_noughts_and_the_first_choice(self):
        small = {"x": 0, "y": 0}
        self.assertEqual(blank(FIGURE), {
            "what": (0, {"from": small, "to": small}), "rows": [0, 0, 0], "dots": [small, small], "n": 0, "dot": small})
        inner = {"r": (0, {"p": 0}), "s": 0}
        self.assertEqual(blank(PICKED), {"v": (0, {"t": 0, "u": (0, inner)}), "w": [inner, inner]})

    def test_it_is_a_record(self):
        for seed in range(60):
            for shape in read_shapes(some_text(seed)).shapes:
                self.assertIs(is_record(shape, blank(shape)), True)

    def test_its_keys_stand_in_the_order_of_the_fields(self):
        self.assertEqual(list(blank(FIGURE)), ["what", "rows", "dots", "n", "dot"])

    def test_it_is_new_each_time_and_all_within_it(self):
        for shape in (FIGURE, PICKED):
            self.assertTrue(is_apart(blank(shape)))
            self.assertTrue(is_apart([blank(shape), blank(shape)]))
        told = blank(FIGURE)
        told["rows"][0] = 5
        told["dots"][0]["x"] = 6
        told["what"][1]["from"]["x"] = 7
        self.assertEqual(blank(FIGURE)["rows"], [0, 0, 0])
        self.assertEqual(told["rows"], [5, 0, 0])
        self.assertEqual(told["dots"], [{"x": 6, "y": 0}, {"x": 0, "y": 0}])
        self.assertEqual(blank(FIGURE)["what"][1]["from"]["x"], 0)


class Copied(unittest.TestCase):

    def test_it_is_equal_and_apart(self):
        for record in (figure(), picked(), blank(FIGURE), {"x": 1}):
            told = copied(record)
            self.assertEqual(plain(told), plain(record))
            self.assertTrue(is_apart(told, record))

    def test_one_dict_at_several_places_becomes_several(self):
        one, row = {"x": 1, "y": 2}, [1, 2, 3]
        record = dict(figure(), dots=[one, one], dot=one, rows=row)
        told = copied(record)
        self.assertEqual(told, record)
        self.assertTrue(is_apart(told, record))
        told["dot"]["x"] = 9
        self.assertEqual(told["dots"], [{"x": 1, "y": 2}] * 2)
        self.assertEqual(one, {"x": 1, "y": 2})

    def test_a_change_behind_changes_nothing_else(self):
        record = picked()
        told = copied(record)
        told["v"][1]["u"][1]["r"][1]["q"] = 8
        told["w"][0]["s"] = 8
        self.assertEqual(record, picked())
        record["w"][1]["r"][1]["q"] = 7
        self.assertEqual(told["w"][1]["r"], (1, {"q": 4}))

    def test_some_records(self):
        for seed in range(60):
            shape = read_shapes(some_text(seed)).main()
            record = some_record(shape, random.Random(seed))
            self.assertEqual(plain(copied(record)), plain(record))
            self.assertTrue(is_apart(copied(record), record))


FIGURE_KINDS = {
    (): "fig", ("what",): "pick line circ", ("what", "line"): "line", ("what", "circ"): "circ",
    ("what", "line", "from"): "dot", ("what", "line", "from", "x"): "num 2", ("what", "circ", "mid", "y"): "num 1",
    ("what", "circ", "r"): "num 4", ("rows",): "row 3 num 2", ("rows", 0): "num 2", ("rows", 2): "num 2",
    ("rows", 3): "num 2", ("rows", 10 ** 29): "num 2", ("dots",): "row 2 dot", ("dots", 1): "dot",
    ("dots", 7): "dot", ("dots", 7, "x"): "num 2", ("n",): "num 3", ("dot",): "dot", ("dot", "y"): "num 1",
}

FIGURE_ASTRAY = [
    ("x",), ("",), ("fig",), ("tag",), ("what", "tag"), ("what", "dot"), ("what", "fig"), ("what", 0), ("what", "0"),
    ("what", "line", "x"), ("what", "line", "mid"), ("what", "line", "from", "x", "y"), ("what", None), ("what", ("line",)),
    ("what.line",), ("rows", "0"), ("rows", -1), ("rows", True), ("rows", False), ("rows", None), ("rows", "x"),
    ("rows", 0, 0), ("rows", 0, "x"), ("rows", ()), ("rows", (0,)), ("rows", [0]), ("rows", {}), ("dots", "x"),
    ("dots", 0, "z"), ("dots", 0, 0), ("dots", True, "x"), ("dots", -1, "x"), ("n", "n"), ("n", 0), ("n", ""), ("n", ()),
    (0,), (True,), (None,), (["n"],), ({"n": 0},), (("n",),), ("n", "n", "n"), ("dot", "dot"), ("dot", 0), ((),),
    "n", "", "what", ["n"], [], {"n": 0}, {}, None, True, 0, -1, "rows.0", (FIGURE,), FIGURE, Nested(FIGURE), Room(1),
]


class KindAt(unittest.TestCase):

    def test_kinds(self):
        for steps, text in FIGURE_KINDS.items():
            kind = kind_at(FIGURE, steps)
            self.assertIsInstance(kind, Kind)
            self.assertEqual(kind.text(), text, steps)

    def test_without_a_step_one_is_at_the_shape_itself(self):
        for shape in read_shapes(DRAWING).shapes:
            self.assertIsInstance(kind_at(shape, ()), Nested)
            self.assertIs(kind_at(shape, ()).shape, shape)

    def test_a_shape_within_is_the_kind_that_names_it(self):
        for steps in (("dot",), ("dots", 9), ("what", "line", "to")):
            kind = kind_at(FIGURE, steps)
            self.assertIsInstance(kind, Nested)
            self.assertEqual(kind.shape.name, "dot")

    def test_picks_within_picks(self):
        for steps, text in ((("v", "d", "u"), "pick c a"), (("v", "d", "u", "c", "r", "b", "q"), "num 2"),
                            (("w", 8, "r"), "pick a b"), (("w", 0, "r", "a"), "a"), (("v", "b"), "b")):
            self.assertEqual(kind_at(PICKED, steps).text(), text)

    def test_what_leads_to_none_is_refused(self):
        for steps in FIGURE_ASTRAY:
            refused(self, NoPath, {"path": steps}, kind_at, FIGURE, steps)
        for steps in (("v", "c"), ("v", "d", "u", "b"), ("w", "r"), ("w", 0, "r", "c"), ("w", 0, 0)):
            refused(self, NoPath, {"path": steps}, kind_at, PICKED, steps)

    def test_any_thing_as_steps_or_as_a_step(self):
        for thing in ODD:
            if thing != ():
                refused(self, NoPath, {"path": thing}, kind_at, FIGURE, thing)
            steps = (thing,)
            refused(self, NoPath, {"path": steps}, kind_at, FIGURE, steps)
            steps = ("rows", thing)
            if type(thing) is int and thing >= 0:
                self.assertEqual(kind_at(FIGURE, steps).text(), "num 2")
            else:
                refused(self, NoPath, {"path": steps}, kind_at, FIGURE, steps)


class Looks(unittest.TestCase):

    def test_words(self):
        for steps, word in (
            (("what", "circ", "mid", "x"), 300), (("what", "circ", "mid", "y"), 7), (("what", "circ", "r"), 70000),
            (("rows", 0), 1), (("rows", 2), 65535), (("dots", 0, "x"), 5), (("dots", 1, "y"), 9), (("n",), 16777215),
            (("dot", "x"), 3), (("dot", "y"), 4),
        ):
            self.assertEqual(look_at(FIGURE, figure(), steps), word)
        for steps, word in ((("v", "d", "t"), 9), (("v", "d", "u", "c", "r", "b", "q"), 513),
                            (("v", "d", "u", "c", "s"), 3), (("w", 0, "r", "a", "p"), 1), (("w", 1, "s"), 5)):
            self.assertEqual(look_at(PICKED, picked(), steps), word)

    def test_numbers_chosen(self):
        self.assertEqual(which_at(FIGURE, figure(), ("what",)), 1)
        self.assertEqual(which_at(FIGURE, blank(FIGURE), ("what",)), 0)
        for steps, number in ((("v",), 0), (("v", "d", "u"), 0), (("v", "d", "u", "c", "r"), 1), (("w", 0, "r"), 0),
                              (("w", 1, "r"), 1)):
            self.assertEqual(which_at(PICKED, picked(), steps), number)


def deeds_on_words():
    """What asks for steps to a num, as functions of shape, record and steps."""
    return [look_at, lambda shape, record, steps: stored(shape, record, steps, 5)]


def deeds_on_picks():
    """What asks for steps to a pick, as functions of shape, record and steps."""
    return [which_at, lambda shape, record, steps: chosen(shape, record, steps, 0),
            lambda shape, record, steps: chosen(shape, record, steps, "no number")]


class Refusals(unittest.TestCase):

    def test_no_record(self):
        for thing in ODD + [figure(), dict(picked(), z=1), dict(picked(), w=[]), [picked()], (0, picked())]:
            for deed in deeds_on_words():
                refused(self, NoRecord, {"found": thing}, deed, PICKED, thing, ("v", "d", "t"))
            for deed in deeds_on_picks():
                refused(self, NoRecord, {"found": thing}, deed, PICKED, thing, ("v",))

    def test_no_record_goes_ahead_of_no_path(self):
        bad = dict(figure(), n=-1)
        for steps in (("n",), ("x",), None, (), ("rows", 9), ("what", "line", "from", "x")):
            for deed in deeds_on_words() + deeds_on_picks():
                refused(self, NoRecord, {"found": bad}, deed, FIGURE, bad, steps)

    def test_steps_that_lead_to_none(self):
        for steps in FIGURE_ASTRAY:
            for deed in deeds_on_words() + deeds_on_picks():
                refused(self, NoPath, {"path": steps}, deed, FIGURE, figure(), steps)

    def test_steps_that_lead_to_another_kind(self):
        for steps, text in FIGURE_KINDS.items():
            for deed in [] if text.startswith("num") else deeds_on_words():
                refused(self, NoPath, {"path": steps}, deed, FIGURE, figure(), steps)
            for deed in [] if text.startswith("pick") else deeds_on_picks():
                refused(self, NoPath, {"path": steps}, deed, FIGURE, figure(), steps)

    def test_no_path_goes_ahead_of_beyond_and_other(self):
        for steps in (("dots", 2), ("dots", 2, "z"), ("what", "line"), ("what", "line", "z"), ("rows", 3, "x"),
                      ("what", "line", "from")):
            for deed in deeds_on_words() + deeds_on_picks():
                refused(self, NoPath, {"path": steps}, deed, FIGURE, figure(), steps)

    def test_an_element_that_the_row_has_not(self):
        for number in (3, 4, 10 ** 29):
            for deed in deeds_on_words():
                refused(self, Beyond, {"found": number}, deed, FIGURE, figure(), ("rows", number))
        for deed in deeds_on_words():
            refused(self, Beyond, {"found": 2}, deed, FIGURE, figure(), ("dots", 2, "x"))
        for deed in deeds_on_picks():
            refused(self, Beyond, {"found": 2}, deed, PICKED, picked(), ("w", 2, "r"))

    def test_each_row_has_its_elements_and_no_more(self):
        for count in range(1, 7):
            shape = read_shapes("shape a\nx row %d num 1" % count).main()
            record = {"x": list(range(count))}
            for number in range(12):
                if number < count:
                    self.assertEqual(look_at(shape, record, ("x", number)), number)
                else:
                    refused(self, Beyond, {"found": number}, look_at, shape, record, ("x", number))

    def test_a_shape_that_is_not_chosen(self):
        for deed in deeds_on_words():
            refused(self, Other, {"found": "line"}, deed, FIGURE, figure(), ("what", "line", "to", "x"))
            refused(self, Other, {"found": "circ"}, deed, FIGURE, blank(FIGURE), ("what", "circ", "r"))
            refused(self, Other, {"found": "a"}, deed, PICKED, picked(), ("v", "d", "u", "c", "r", "a", "p"))
            refused(self, Other, {"found": "b"}, deed, PICKED, picked(), ("w", 0, "r", "b", "q"))
        other = dict(picked(), v=(1, {"q": 1}))
        for deed in deeds_on_picks():
            refused(self, Other, {"found": "d"}, deed, PICKED, other, ("v", "d", "u"))
            refused(self, Other, {"found": "d"}, deed, PICKED, other, ("v", "d", "u", "c", "r"))

    def test_the_first_step_from_the_left_goes(self):
        for deed in deeds_on_words():
            refused(self, Other, {"found": "a"}, deed, PICKED, picked(), ("v", "d", "u", "a", "p"))
            refused(self, Beyond, {"found": 5}, deed, PICKED, picked(), ("w", 5, "r", "b", "q"))
        text = PICKS + "\nshape f\ng row 2 c\nshape h\nm pick f a\nn row 2 f"
        shape = read_shapes(text).main()
        record = chosen(shape, blank(shape), ("m",), 1)
        for deed in deeds_on_words():
            refused(self, Other, {"found": "f"}, deed, shape, record, ("m", "f", "g", 7, "r", "b", "q"))
            refused(self, Beyond, {"found": 8}, deed, shape, record, ("n", 8, "g", 9, "s"))
            refused(self, Beyond, {"found": 9}, deed, shape, record, ("n", 1, "g", 9, "r", "b", "q"))

    def test_what_is_refused_changes_nothing(self):
        record = figure()
        for steps in list(FIGURE_KINDS) + FIGURE_ASTRAY + [("rows", 3)]:
            for deed in deeds_on_words() + deeds_on_picks():
                try:
                    deed(FIGURE, record, steps)
                except ValueError:
                    pass
                self.assertEqual(plain(record), plain(figure()))


class Stored(unittest.TestCase):

    def test_a_word_is_another_one(self):
        for steps, inner in (
            (("n",), ("n",)), (("rows", 0), ("rows", 0)), (("rows", 2), ("rows", 2)), (("dot", "y"), ("dot", "y")),
            (("dots", 1, "x"), ("dots", 1, "x")), (("what", "circ", "r"), ("what", 1, "r")),
            (("what", "circ", "mid", "x"), ("what", 1, "mid", "x")),
        ):
            told = stored(FIGURE, figure(), steps, 77)
            self.assertEqual(plain(told), plain(with_thing(figure(), inner, 77)))
            self.assertEqual(look_at(FIGURE, told, steps), 77)
        told = stored(PICKED, picked(), ("v", "d", "u", "c", "r", "b", "q"), 6)
        self.assertEqual(told, with_thing(picked(), ("v", 1, "u", 1, "r", 1, "q"), 6))

    def test_the_rest_by_the_width(self):
        for width in (1, 2, 3, 4):
            shape, bound = read_shapes("shape a\nx num %d\ny row 2 num %d" % (width, width)).main(), 256 ** width
            for number in (0, 1, bound - 1, bound, bound + 1, -1, -2, -bound, -bound - 1, 10 ** 29, -(10 ** 29)):
                told = stored(shape, {"x": 3, "y": [4, 5]}, ("x",), number)
                self.assertEqual(told, {"x": number % bound, "y": [4, 5]})
                self.assertIs(type(told["x"]), int)
                told = stored(shape, {"x": 3, "y": [4, 5]}, ("y", 1), number)
                self.assertEqual(told, {"x": 3, "y": [4, number % bound]})
                self.assertIs(is_record(shape, told), True)

    def test_the_record_stays_and_has_nothing_in_common(self):
        record = figure()
        told = stored(FIGURE, record, ("dots", 0, "x"), 1)
        self.assertEqual(plain(record), plain(figure()))
        self.assertTrue(is_apart(told, record))
        told["rows"][0] = told["dot"]["x"] = told["what"][1]["r"] = 0
        self.assertEqual(plain(record), plain(figure()))

    def test_the_same_word_stored_is_a_new_record_too(self):
        record = figure()
        told = stored(FIGURE, record, ("n",), 16777215)
        self.assertEqual(told, record)
        self.assertTrue(is_apart(told, record))

    def test_one_dict_at_several_places_is_changed_at_one(self):
        one = {"x": 1, "y": 2}
        record = dict(figure(), dots=[one, one], dot=one)
        told = stored(FIGURE, record, ("dots", 1, "y"), 9)
        self.assertEqual(told["dots"], [{"x": 1, "y": 2}, {"x": 1, "y": 9}])
        self.assertEqual(told["dot"], {"x": 1, "y": 2})
        self.assertEqual(one, {"x": 1, "y": 2})
        self.assertTrue(is_apart(told, record))

    def test_keys_in_another_order(self):
        record = {"y": [4], "x": 3}
        shape = read_shapes("shape a\nx num 1\ny row 1 num 1").main()
        self.assertEqual(stored(shape, record, ("y", 0), 8), {"x": 3, "y": [8]})


class Chosen(unittest.TestCase):

    def test_another_number(self):
        small = {"x": 0, "y": 0}
        told = chosen(FIGURE, figure(), ("what",), 0)
        self.assertEqual(told, dict(figure(), what=(0, {"from": small, "to": small})))
        self.assertIs(type(told["what"]), tuple)
        self.assertEqual(which_at(FIGURE, told, ("what",)), 0)

    def test_the_same_number_again(self):
        told = chosen(FIGURE, figure(), ("what",), 1)
        self.assertEqual(told, dict(figure(), what=(1, {"mid": {"x": 0, "y": 0}, "r": 0})))

    def test_picks_within_picks_and_in_rows(self):
        inner = {"r": (0, {"p": 0}), "s": 0}
        for steps, at, number, choice in (
            (("v",), ("v",), 1, (1, {"q": 0})), (("v",), ("v",), 0, (0, {"t": 0, "u": (0, inner)})),
            (("v", "d", "u"), ("v", 1, "u"), 0, (0, inner)), (("v", "d", "u"), ("v", 1, "u"), 1, (1, {"p": 0})),
            (("v", "d", "u", "c", "r"), ("v", 1, "u", 1, "r"), 0, (0, {"p": 0})),
            (("v", "d", "u", "c", "r"), ("v", 1, "u", 1, "r"), 1, (1, {"q": 0})),
            (("w", 1, "r"), ("w", 1, "r"), 0, (0, {"p": 0})), (("w", 0, "r"), ("w", 0, "r"), 1, (1, {"q": 0})),
        ):
            told = chosen(PICKED, picked(), steps, number)
            self.assertEqual(plain(told), plain(with_thing(picked(), at, choice)))
            self.assertIs(is_record(PICKED, told), True)

    def test_no_number_of_the_pick(self):
        for number in ODD + [2, 3, -1, -2, 10 ** 29, True, False, "line", "0", [0], (0,), None, {}]:
            if type(number) is int and number in (0, 1):
                continue
            refused(self, Beyond, {"found": number}, chosen, FIGURE, figure(), ("what",), number)
            refused(self, Beyond, {"found": number}, chosen, PICKED, picked(), ("w", 1, "r"), number)

    def test_picks_of_two_three_and_four(self):
        ahead = "shape a\nx num 1\nshape b\ny num 1\nshape c\nz num 1\nshape d\nw num 1\nshape e\nv pick "
        for names in ("a b", "a b c", "a b c d"):
            shape = read_shapes(ahead + names).main()
            for number in range(6):
                if number < len(names.split(" ")):
                    told = chosen(shape, {"v": (0, {"x": 5})}, ("v",), number)
                    self.assertEqual(told, {"v": (number, {"xyzw"[number]: 0})})
                else:
                    refused(self, Beyond, {"found": number}, chosen, shape, blank(shape), ("v",), number)

    def test_the_number_is_looked_at_last(self):
        refused(self, Beyond, {"found": 5}, chosen, PICKED, picked(), ("w", 5, "r"), 9)
        refused(self, Other, {"found": "d"}, chosen, PICKED, dict(picked(), v=(1, {"q": 0})), ("v", "d", "u"), 9)
        steps = ("w", 0, "s")
        refused(self, NoPath, {"path": steps}, chosen, PICKED, picked(), steps, 9)
        bad = [1]
        refused(self, NoRecord, {"found": bad}, chosen, PICKED, bad, ("v",), 9)

    def test_the_record_stays_and_has_nothing_in_common(self):
        record = picked()
        for number in (0, 1):
            told = chosen(PICKED, record, ("w", 0, "r"), number)
            self.assertEqual(plain(record), plain(picked()))
            self.assertTrue(is_apart(told, record))
        one = {"r": (0, {"p": 1}), "s": 2}
        record = dict(picked(), w=[one, one])
        told = chosen(PICKED, record, ("w", 1, "r"), 1)
        self.assertEqual(told["w"], [{"r": (0, {"p": 1}), "s": 2}, {"r": (1, {"q": 0}), "s": 2}])
        self.assertTrue(is_apart(told, record))

    def test_the_blank_ones_are_apart(self):
        one = chosen(FIGURE, figure(), ("what",), 0)
        other = chosen(FIGURE, figure(), ("what",), 0)
        self.assertTrue(is_apart([one, other]))
        one["what"][1]["to"]["x"] = 4
        self.assertEqual(one["what"][1]["from"], {"x": 0, "y": 0})
        self.assertEqual(chosen(FIGURE, figure(), ("what",), 0), other)
        self.assertEqual(copy.deepcopy(other), other)


if __name__ == "__main__":
    unittest.main()
