"""Runs of programs: inputs and budgets, what each row does, what counts as done, faults, and what is told."""

import copy
import random
import unittest

from roomslaid.cellstore import Cells
from roomslaid.errors import Beyond, NoBudget, NoInput, Other, TooMuch
from roomslaid.layingtext import read_laying
from roomslaid.program import read_program
from roomslaid.runs import Run, run
from roomslaid.shapetext import read_shapes
from roomslaid.stores import Plain
from tests.helper import ODD, PICKS, plain, refused, some_laying, some_program, some_record, some_text

PICKED = read_shapes(PICKS)
SIMPLE = read_shapes("shape a\nx num 1\ny num 2\nz row 3 num 1")
MOST_WORD = 4294967295
CHOICES = {
    "v": (0, {"t": 9, "u": (0, {"r": (1, {"q": 513}), "s": 3})}),
    "w": [{"r": (0, {"p": 1}), "s": 2}, {"r": (1, {"q": 4}), "s": 5}],
}


def simple(*numbers, most=9):
    """A store of things of the simple shape, with these numbers as their x."""
    return Plain(SIMPLE, most, [{"x": number, "y": 0, "z": [0, 0, 0]} for number in numbers])


class Case(unittest.TestCase):

    def run_on(self, store, *lines, inputs=None, budget=5000):
        told = run(read_program(store.shapes, "\n".join(lines)), store, inputs or {}, budget)
        self.assertIsInstance(told, Run)
        return told

    def outs(self, *lines, store=None, inputs=None):
        told = self.run_on(store or simple(), *lines, inputs=inputs)
        self.assertIsNone(told.fault)
        return told.outs

    def told(self, store, *lines, inputs=None, budget=5000):
        told = self.run_on(store, *lines, inputs=inputs, budget=budget)
        return (told.outs, told.fault, told.done, told.lines)


class Inputs(Case):

    def test_words_at_first(self):
        self.assertEqual(self.outs("out a", "out b", inputs={"b": 7}), [0, 7])
        self.assertEqual(self.outs("out a", "out b", inputs={"b": 0, "a": MOST_WORD}), [MOST_WORD, 0])
        self.assertEqual(self.outs("out a", inputs={}), [0])

    def test_names_of_steps_may_have_inputs(self):
        self.assertEqual(self.outs("store i z.k a", "b = look i z.k", "out b", store=simple(1), inputs={"k": 2, "a": 9}), [9])

    def refused_input(self, name, inputs, budget=5):
        program = read_program(SIMPLE, "a = b\nstore i z.k c")
        store = simple(1)
        refused(self, NoInput, {"name": name}, run, program, store, inputs, budget)
        self.assertEqual((store.records(), store.looks), (simple(1).records(), []))

    def test_keys_that_are_no_names_of_the_program(self):
        for key in ("", "d", "aa", "A", "z", "x", "out", "a ", "store", "z.k"):
            self.refused_input(key, {key: 0})
        for key in (None, True, False, 0, 1, -1, 10 ** 29, (), (0,), ("a",), SIMPLE):
            self.refused_input(key, {key: 0})

    def test_words_of_no_four_cells(self):
        for word in ODD + [-1, MOST_WORD + 1, "0", (0,), [0]]:
            if isinstance(word, int) and not isinstance(word, bool) and 0 <= word <= MOST_WORD:
                continue
            for name in ("a", "b", "i", "k", "c"):
                self.refused_input(name, {name: word})

    def test_the_order_of_keys(self):
        self.refused_input(None, {"d": 0, None: 0, 0: 0})
        self.refused_input(0, {"a": -1, 0: 0, None: 0, "": 0})
        self.refused_input((), {"a": 0, "b": 1, (): 0})
        self.refused_input("b", {"c": -1, "b": -1, "a": 0})
        self.refused_input("a", {"zz": 0, "c": -1, "a": -1})
        self.refused_input("Z", {"a": -1, "Z": 0})
        self.refused_input("", {"a": -1, "Z": 0, "": 0})
        self.refused_input("d", {"k": 10 ** 29, "i": 0, "d": 0})
        self.refused_input(2, {"a": 0, 2: 0, 1: 0})

    def test_inputs_stay(self):
        inputs = {"a": 1}
        self.outs("a = 5", "b = 6", inputs=inputs)
        self.assertEqual(inputs, {"a": 1})

    def test_budgets_that_are_none(self):
        program = read_program(SIMPLE, "out a")
        for budget in ODD + [-1, 5001, "5", (5,), [5]]:
            if isinstance(budget, int) and not isinstance(budget, bool) and 0 <= budget <= 5000:
                continue
            store = simple(1)
            refused(self, NoBudget, {"found": budget}, run, program, store, {}, budget)
            self.assertEqual(store.looks, [])

    def test_the_inputs_are_refused_first(self):
        for budget in (-1, 5001, None, True, "x", []):
            self.refused_input("d", {"d": 0}, budget)
            self.refused_input("a", {"a": -1}, budget)


class Rows(Case):

    def test_numbers_and_names(self):
        self.assertEqual(self.outs("a = 7", "b = a", "a = 9", "out a", "out b", "out c"), [9, 7, 0])

    def test_sums(self):
        for one, sign, other, wanted in (
            (2, "+", 3, 5), (MOST_WORD, "+", 1, 0), (MOST_WORD, "+", MOST_WORD, MOST_WORD - 1), (0, "+", 0, 0),
            (5, "-", 3, 2), (3, "-", 5, MOST_WORD - 1), (0, "-", 1, MOST_WORD), (0, "-", MOST_WORD, 1), (7, "-", 7, 0),
            (6, "*", 7, 42), (65536, "*", 65536, 0), (65536, "*", 65537, 65536), (MOST_WORD, "*", MOST_WORD, 1), (0, "*", 9, 0),
            (1, "<", 2, 1), (2, "<", 2, 0), (3, "<", 2, 0), (0, "<", MOST_WORD, 1), (MOST_WORD, "<", 0, 0),
            (2, "=", 2, 1), (2, "=", 3, 0), (0, "=", 0, 1), (MOST_WORD, "=", 0, 0),
            (12, "&", 10, 8), (1, "&", 2, 0), (MOST_WORD, "&", 77, 77), (0, "&", 5, 0), (MOST_WORD, "&", MOST_WORD, MOST_WORD),
        ):
            outs = self.outs("a = b %s c" % sign, "out a", inputs={"b": one, "c": other})
            self.assertEqual(outs, [wanted], (one, sign, other))
            self.assertIs(outs[0].__class__, int)

    def test_one_name_on_both_sides(self):
        self.assertEqual(self.outs("a = a + a", "a = a * a", "out a", inputs={"a": 3}), [36])
        self.assertEqual(self.outs("a = a - a", "out a", inputs={"a": 3}), [0])

    def test_look_and_store(self):
        store = simple(5, 6)
        told = self.told(store, "a = look i x", "store j y a", "b = look j y", "out b", "store j x c", "d = look j x", "out d",
                         inputs={"i": 0, "j": 1, "c": 257})
        self.assertEqual(told, ([5, 1], None, 7, [0, 1, 2, 4, 5]))
        self.assertEqual(store.looks, [("look", 0, "x", 5), ("store", 1, "y", 5), ("look", 1, "y", 5), ("store", 1, "x", 1),
                                       ("look", 1, "x", 1)])

    def test_which_and_choose(self):
        store = Plain(PICKED, 2, [copy.deepcopy(CHOICES)])
        told = self.told(store, "a = which i w.k.r", "out a", "choose i w.k.r zero", "a = which i w.1.r", "out a",
                         "b = look i w.k.r.a.p", "out b", inputs={"k": 1})
        self.assertEqual(told, ([1, 0, 0], None, 7, [0, 2, 3, 5]))
        self.assertEqual([look[2] for look in store.looks], ["w.1.r", "w.1.r", "w.1.r", "w.1.r.a.p"])

    def test_copy_put_take_and_many(self):
        store = simple(5, 6, 7)
        told = self.told(store, "a = many", "out a", "copy i j", "b = put", "out b", "take i", "a = many", "out a",
                         inputs={"i": 0, "j": 2})
        self.assertEqual(told, ([3, 3, 3], None, 8, [2, 3, 5]))
        self.assertEqual(store.looks, [("copy", 0, "", 2), ("put", 3, "", 0), ("take", 0, "", 3)])
        self.assertEqual([record["x"] for record in store.records()], [0, 6, 7])

    def test_a_step_by_a_name_is_its_number(self):
        store = simple(1)
        self.run_on(store, "span k o t", "store o z.k k", "end", inputs={"t": 3})
        self.assertEqual(store.records()[0]["z"], [0, 1, 2])
        self.assertEqual(self.told(store, "a = look o z.k", inputs={"k": 3}), ([], ("beyond", 0), 1, []))
        self.assertEqual(self.told(store, "a = look o z.k", inputs={"k": MOST_WORD}), ([], ("beyond", 0), 1, []))

    def test_old_looks_stay_told(self):
        store = simple(5)
        store.look(0, ("y",))
        told = self.run_on(store, "a = look i x")
        self.assertEqual(store.looks, [("look", 0, "y", 0), ("look", 0, "x", 5)])
        self.assertEqual(told.lines, [0])
        told = self.run_on(store, "out a", "a = look i x")
        self.assertEqual((told.lines, len(store.looks)), ([1], 3))

    def test_the_program_without_rows(self):
        self.assertEqual(self.told(simple(), "", budget=0), ([], None, 0, []))


class Choices(Case):

    def test_both_parts(self):
        lines = ["if a", "out b", "else", "out c", "end", "out a"]
        for word, outs in ((0, [3, 0]), (1, [2, 1]), (2, [2, 2]), (MOST_WORD, [2, MOST_WORD])):
            self.assertEqual(self.told(simple(), *lines, inputs={"a": word, "b": 2, "c": 3}), (outs, None, 3, []))

    def test_without_else_and_without_lines(self):
        self.assertEqual(self.told(simple(), "if a", "out b", "end", "out b"), ([0], None, 2, []))
        self.assertEqual(self.told(simple(), "if a", "end"), ([], None, 1, []))
        self.assertEqual(self.told(simple(), "if a", "else", "end", inputs={"a": 1}), ([], None, 1, []))

    def test_the_word_is_looked_at_once(self):
        self.assertEqual(self.outs("if a", "a = 0", "out b", "else", "out c", "end", inputs={"a": 1, "b": 2, "c": 3}), [2])


class Loops(Case):

    def test_each(self):
        self.assertEqual(self.told(simple(5, 6), "each i", "a = look i x", "out a", "end", "out i"),
                         ([5, 6, 2], None, 8, [1, 1]))
        self.assertEqual(self.told(simple(), "each i", "out a", "end", "out i", inputs={"i": 7}), ([0], None, 2, []))

    def test_things_become_more(self):
        self.assertEqual(self.told(simple(5, most=4), "each i", "a = many", "b = a < c", "if b", "d = put", "end", "end", "out i",
                                   inputs={"c": 4})[0], [4])
        self.assertEqual(self.told(simple(5, most=3), "each i", "a = put", "end"), ([], ("full", 1), 6, [1, 1]))

    def test_things_become_fewer(self):
        store = simple(1, 2, 3, 4)
        self.assertEqual(self.told(store, "each i", "take i", "out i", "end", "out i"), ([0, 1, 2], None, 8, [1, 1]))
        self.assertEqual([record["x"] for record in store.records()], [4, 3])

    def test_something_put_into_its_own_name(self):
        self.assertEqual(self.outs("each i", "out i", "i = i + o", "end", "out i", store=simple(1, 2, 3, 4, 5), inputs={"o": 1}),
                         [0, 2, 4, 6])
        self.assertEqual(self.told(simple(1), "each i", "i = i - o", "end", inputs={"o": 1}, budget=8),
                         ([], ("budget", 0), 8, []))
        self.assertEqual(self.outs("span i b c", "out i", "i = c", "end", "out i", inputs={"b": 3, "c": 9}), [3, 10])

    def test_the_number_goes_round(self):
        # The greatest word and one more is 0.
        lines = ["span i b c", "out i", "d = i = b", "if d", "i = m", "else", "i = c", "end", "end", "out i"]
        self.assertEqual(self.outs(*lines, inputs={"b": 1, "c": 5, "m": MOST_WORD}), [1, 0, 6])
        self.assertEqual(self.outs("each i", "a = a + o", "b = a < t", "if b", "i = m", "end", "out i", "end", "out i", store=simple(1, 2),
                                   inputs={"o": 1, "t": 2, "m": MOST_WORD}), [MOST_WORD, 0, 1, 2])

    def test_span(self):
        self.assertEqual(self.told(simple(), "span i b c", "out i", "end", "out i", inputs={"b": 2, "c": 5}),
                         ([2, 3, 4, 5], None, 8, []))
        for first, behind in ((5, 5), (6, 5), (MOST_WORD, 0), (MOST_WORD, MOST_WORD)):
            self.assertEqual(self.told(simple(), "span i b c", "out i", "end", "out i", inputs={"b": first, "c": behind}),
                             ([first], None, 2, []))
        self.assertEqual(self.outs("span i b c", "out i", "end", "out i", inputs={"b": MOST_WORD - 1, "c": MOST_WORD}),
                         [MOST_WORD - 1, MOST_WORD])

    def test_its_words_are_read_once(self):
        self.assertEqual(self.outs("span i b c", "out i", "c = 9", "b = 7", "end", "out i", inputs={"b": 1, "c": 3}), [1, 2, 3])
        self.assertEqual(self.outs("span i i c", "out i", "end", "out i", inputs={"i": 1, "c": 3}), [1, 2, 3])
        self.assertEqual(self.outs("span i b i", "out i", "end", "out i", inputs={"b": 1, "i": 3}), [1, 2, 3])
        self.assertEqual(self.outs("span i i i", "out i", "end", "out i", inputs={"i": 3}), [3])

    def test_loops_without_lines(self):
        self.assertEqual(self.told(simple(1, 2), "each i", "end", "out i"), ([2], None, 4, []))

    def test_within_one_another(self):
        self.assertEqual(self.outs("each i", "each j", "span k i j", "out k", "end", "end", "end", store=simple(1, 2, 3)),
                         [0, 0, 1, 1])
        self.assertEqual(self.told(simple(1, 2), "each i", "if i", "out i", "else", "each j", "end", "end", "end"),
                         ([1], None, 9, []))


class Budgets(Case):

    def test_just_enough_and_one_less(self):
        for lines in (["out a"], ["a = 1", "out a", "out a"], ["each i", "out i", "end"], ["if a", "out b", "else", "out c", "end"],
                      ["span i b c", "if i", "out i", "end", "end"]):
            inputs = {"c": 4} if "c" in read_program(SIMPLE, "\n".join(lines)).names() else {}
            whole = self.told(simple(1, 2), *lines, inputs=inputs)
            self.assertIsNone(whole[1])
            self.assertEqual(self.told(simple(1, 2), *lines, inputs=inputs, budget=whole[2]), whole)
            less = self.told(simple(1, 2), *lines, inputs=inputs, budget=whole[2] - 1)
            self.assertEqual((less[1][0], less[2]), ("budget", whole[2] - 1))
            for budget in range(whole[2]):
                part = self.told(simple(1, 2), *lines, inputs=inputs, budget=budget)
                self.assertEqual((part[1][0], part[2], part[0]), ("budget", budget, whole[0][:len(part[0])]))

    def test_the_line_of_the_fault(self):
        lines = ["out a", "each i", "if i", "out i", "else", "a = 4", "end", "end", "out a"]
        wanted = [0, 1, 2, 5, 1, 2, 3, 1, 8]
        for budget, line in enumerate(wanted):
            self.assertEqual(self.told(simple(1, 2), *lines, budget=budget)[1], ("budget", line))
        self.assertEqual(self.told(simple(1, 2), *lines, budget=len(wanted)), ([0, 1, 4], None, 9, []))

    def test_none_at_all(self):
        self.assertEqual(self.told(simple(1), "out a", budget=0), ([], ("budget", 0), 0, []))
        self.assertEqual(self.told(simple(1), "each i", "end", budget=0), ([], ("budget", 0), 0, []))
        self.assertEqual(self.told(simple(1), "if a", "end", budget=0), ([], ("budget", 0), 0, []))
        store = simple(1)
        self.told(store, "take i", budget=0)
        self.assertEqual((store.many(), store.looks), (1, []))

    def test_five_thousand(self):
        self.assertEqual(self.told(simple(), "span i b c", "end", inputs={"c": 4999}), ([], None, 5000, []))
        self.assertEqual(self.told(simple(), "span i b c", "end", inputs={"c": 5000}), ([], ("budget", 0), 5000, []))
        self.assertEqual(self.told(simple(), "span i b c", "out i", "end", inputs={"c": MOST_WORD})[1:], (("budget", 0), 5000, []))


class Faults(Case):

    def test_beyond(self):
        for line in ("a = look i x", "store i x b", "copy i b", "copy b i", "take i", "a = look b z.i"):
            self.assertEqual(self.told(simple(1), "out b", line, "out b", inputs={"i": 4}), ([0], ("beyond", 1), 2, []), line)
        store = Plain(PICKED, 2, [copy.deepcopy(CHOICES)])
        for line in ("a = which i v", "choose i v b", "choose b v i", "a = which b w.i.r", "choose b w.i.r i"):
            self.assertEqual(self.told(store, "out b", line, "out b", inputs={"i": 4}), ([0], ("beyond", 1), 2, []), line)

    def test_other(self):
        for line in ("a = look b v.b.q", "store b v.b.q b", "a = which b v.d.u.c.r", "choose b v.d.u.c.r b"):
            store = Plain(PICKED, 2, [dict(CHOICES, v=(0, {"t": 9, "u": (1, {"p": 1})}))])
            self.assertEqual(self.told(store, "out b", line, "out b"), ([0], ("other", 1), 2, []), line)

    def test_full(self):
        self.assertEqual(self.told(simple(1, most=1), "a = put", "out a"), ([], ("full", 0), 1, []))

    def test_the_goal_gets_nothing(self):
        # The run ends there, so its words are seen in what was done ahead alone.
        store = simple(1, 2)
        told = self.told(store, "each i", "a = look i x", "out a", "a = look k x", "out a", "end", inputs={"k": 2})
        self.assertEqual(told, ([1], ("beyond", 3), 4, [1]))

    def test_it_ends_all_that_is_begun(self):
        store = simple(1, 2, 3)
        told = self.told(store, "each i", "each j", "if a", "out a", "else", "take k", "end", "end", "out i", "end", "out i",
                         inputs={"k": 3})
        self.assertEqual(told, ([], ("beyond", 5), 4, []))
        self.assertEqual(store.many(), 3)

    def test_what_was_done_stays(self):
        store = simple(1, 2)
        told = self.told(store, "store i x a", "take k", "store i y a", inputs={"a": 9, "k": 7})
        self.assertEqual(told, ([], ("beyond", 1), 2, [0]))
        self.assertEqual(store.records()[0], {"x": 9, "y": 0, "z": [0, 0, 0]})
        self.assertEqual(store.looks, [("store", 0, "x", 9)])


class Watched(Plain):
    """A plain store that keeps what it is told ahead of rows."""

    def __init__(self, shapes, most, records):
        Plain.__init__(self, shapes, most, records)
        self.told = []

    def ahead(self, done):
        self.told.append((done, len(self.looks)))


class Ahead(Case):

    def test_it_is_told_ahead_of_each_row(self):
        store = Watched(SIMPLE, 3, simple(1, 2).records())
        told = self.told(store, "each i", "a = look i x", "if a", "out a", "end", "end", "take k", inputs={"k": 5})
        self.assertEqual(told, ([1, 2], ("beyond", 6), 10, [1, 1]))
        self.assertEqual(store.told, [(0, 0), (1, 0), (2, 1), (3, 1), (4, 1), (5, 1), (6, 2), (7, 2), (8, 2), (9, 2)])

    def test_not_where_the_budget_lets_it_not(self):
        store = Watched(SIMPLE, 3, simple(1, 2).records())
        self.told(store, "each i", "end", budget=2)
        self.assertEqual(store.told, [(0, 0), (1, 0)])
        store = Watched(SIMPLE, 3, [])
        self.told(store, "out a", budget=0)
        self.assertEqual(store.told, [])

    def test_what_it_does_is_there_for_the_row(self):
        class Growing(Plain):
            def ahead(self, done):
                if done == 1:
                    self.blank_put()
        store = Growing(SIMPLE, 3, simple(1).records())
        self.assertEqual(self.told(store, "out a", "each i", "out i", "end"), ([0, 0, 1], None, 6, []))

    def test_refusals_of_a_store_under_it(self):
        class Refusing(Plain):
            def word_at(self, thing, steps):
                raise {0: Beyond, 1: Other, 2: TooMuch}[thing](thing)
        for thing, word in ((0, "beyond"), (1, "other"), (2, "full")):
            store = Refusing(SIMPLE, 3, simple(1, 2, 3).records())
            self.assertEqual(self.told(store, "a = look i x", inputs={"i": thing}), ([], (word, 0), 1, []))


class Told(Case):

    def test_two_runs_have_nothing_in_common(self):
        program = read_program(SIMPLE, "a = a + b\nout a\nc = look i x")
        one, other = [run(program, simple(1), {"b": 4}, 9) for number in range(2)]
        one.outs.clear()
        one.lines.clear()
        self.assertEqual((other.outs, other.lines), ([4], [2]))

    def test_the_fault_is_a_tuple(self):
        fault = self.run_on(simple(), "take i").fault
        self.assertIs(fault.__class__, tuple)
        self.assertEqual(fault, ("beyond", 0))

    def test_the_program_stays(self):
        program = read_program(SIMPLE, "each i\nstore i z.k i\na = a + i\nend\nout a")
        rows = plain([vars(row) for row in program.rows[0].rows])
        self.assertEqual(run(program, simple(1, 2, 3), {}, 99).outs, [3])
        self.assertEqual(run(program, simple(1, 2, 3), {}, 99).outs, [3])
        self.assertEqual(plain([vars(row) for row in program.rows[0].rows]), rows)


def interpreted(shape, text, store, inputs, budget):
    """Runs the text on the store line by line, by jumps."""
    lines = [line.split(" ") for line in text.split("\n")]
    words = {word: 0 for line in lines for part in line for word in part.split(".")}
    words.update(inputs)
    closing, heads = jumps(lines)
    outs, looked, bounds, done, at, again = [], [], {}, 0, 0, False
    while at < len(lines):
        line = lines[at]
        if line[0] == "else":
            at = closing[at]
        elif line[0] == "end":
            head = heads[at]
            again = lines[head][0] != "if"
            if again:
                words[lines[head][1]] = (words[lines[head][1]] + 1) % 2 ** 32
            at = head if again else at + 1
        elif done == budget:
            return outs, ("budget", at), done, looked
        elif line[0] in ("each", "span"):
            done += 1
            if not again:
                bounds[at] = words[line[3]] if line[0] == "span" else None
                words[line[1]] = words[line[2]] if line[0] == "span" else 0
            again = False
            high = store.many() if bounds[at] is None else bounds[at]
            at = at + 1 if words[line[1]] < high else closing[at] + 1
        elif line[0] == "if":
            done += 1
            at = at + 1 if words[line[1]] else closing[at] + 1
        else:
            done += 1
            before = len(store.looks)
            try:
                done_line(shape, line, words, store, outs)
            except (Beyond, Other, TooMuch) as error:
                fault = {Beyond: "beyond", Other: "other", TooMuch: "full"}[error.__class__]
                return outs, (fault, at), done, looked
            looked += [at] * (len(store.looks) - before)
            at += 1
    return outs, None, done, looked


def jumps(lines):
    """For each line that begins or parts something the line to which it leads, and for each end the line that began it."""
    closing, heads, begun = {}, {}, []
    for at, line in enumerate(lines):
        if line[0] in ("each", "span", "if"):
            begun.append([at])
        if line[0] == "else":
            closing[begun[-1][0]] = at
            begun[-1].append(at)
        if line[0] == "end":
            head, *middle = begun.pop()
            closing.setdefault(head, at)
            closing.update({line: at for line in middle})
            heads[at] = head
    return closing, heads


def done_line(shape, line, words, store, outs):
    """Does one line that is no loop and no choice."""
    if line[0] == "out":
        outs.append(words[line[1]])
    elif line[0] in ("copy", "take"):
        getattr(store, line[0])(*[words[word] for word in line[1:]])
    elif line[0] in ("store", "choose"):
        getattr(store, line[0])(words[line[1]], steps_of(shape, line[2], words), words[line[3]])
    elif line[2] in ("look", "which"):
        words[line[0]] = getattr(store, line[2])(words[line[3]], steps_of(shape, line[4], words))
    elif line[2] in ("put", "many"):
        words[line[0]] = getattr(store, line[2])()
    elif len(line) == 3:
        words[line[0]] = int(line[2]) if line[2].isdigit() else words[line[2]]
    else:
        one, other = words[line[2]], words[line[4]]
        told = {"+": one + other, "-": one - other, "*": one * other, "<": one < other, "=": one == other, "&": one & other}
        words[line[0]] = int(told[line[3]]) % 2 ** 32


def steps_of(shape, path, words):
    """The steps of a program's path, with these words for its names."""
    kind, steps = shape.kind_of(""), []
    for part in path.split("."):
        if kind.word() == "row":
            steps.append(int(part) if part.isdigit() else words[part])
            kind = kind.kind
        else:
            steps.append(part)
            inner = kind.shape.fields if kind.word() == "shape" else [(shape.name, shape.kind_of("")) for shape in kind.shapes]
            kind = dict(inner)[part]
    return tuple(steps)


class Drawn(Case):

    def test_programs_line_by_line_and_over_cells(self):
        faults = {}
        for seed in range(300):
            dice = random.Random(seed)
            shapes = read_shapes(some_text(seed % 50))
            things = dice.choice([1, 2, 4, 6])
            records = [some_record(shapes.main(), dice) for number in range(dice.choice([0, 1, things, things]) if things > 1 else 1)]
            text, budget = some_program(shapes.main(), dice), dice.choice([0, 5, 60, 400])
            program = read_program(shapes, text)
            inputs = {name: dice.choice([0, 1, 2, 300]) for name in program.names() if dice.random() < 0.3}
            stores = [Plain(shapes, things, records), Plain(shapes, things, records),
                      Cells(read_laying(shapes, some_laying(shapes.main(), dice, things)), records)]
            told = run(program, stores[0], inputs, budget)
            self.assertEqual((told.outs, told.fault, told.done, told.lines),
                             interpreted(shapes.main(), text, stores[1], inputs, budget), text)
            over = run(program, stores[2], inputs, budget)
            self.assertEqual(plain(vars(over)), plain(vars(told)))
            for store in stores[1:]:
                self.assertEqual(store.records(), stores[0].records())
                self.assertEqual(plain(store.looks), plain(stores[0].looks))
            self.assertEqual(len(stores[2].places), len(stores[2].looks))
            self.assertEqual(len(told.lines), len(stores[0].looks))
            word = told.fault and told.fault[0]
            faults[word] = faults.get(word, 0) + 1
        self.assertEqual(set(faults), {None, "budget", "beyond", "other", "full"})
        self.assertGreater(min(faults.values()), 3, faults)


if __name__ == "__main__":
    unittest.main()
