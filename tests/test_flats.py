"""Records as flat lists, there and back."""

import random
import unittest

from roomslaid.errors import NoRecord
from roomslaid.flats import flat, of_flat
from roomslaid.records import blank, is_record
from roomslaid.shapetext import read_shapes
from tests.helper import DRAWING, ODD, PICKS, is_apart, plain, refused, some_record, some_text

FIGURE = read_shapes(DRAWING).main()
PICKED = read_shapes(PICKS).main()


def figure():
    """A record of the shape fig, and its flat list."""
    record = {
        "what": (1, {"mid": {"x": 300, "y": 7}, "r": 70000}), "rows": [1, 2, 65535],
        "dots": [{"x": 5, "y": 6}, {"x": 8, "y": 9}], "n": 16777215, "dot": {"x": 3, "y": 4},
    }
    return record, [
        ("what.tag", 1), ("what.circ.mid.x", 300), ("what.circ.mid.y", 7), ("what.circ.r", 70000),
        ("rows.0", 1), ("rows.1", 2), ("rows.2", 65535), ("dots.0.x", 5), ("dots.0.y", 6), ("dots.1.x", 8),
        ("dots.1.y", 9), ("n", 16777215), ("dot.x", 3), ("dot.y", 4),
    ]


def picked():
    """A record of the shape e, three choices deep, and its flat list."""
    record = {
        "v": (0, {"t": 9, "u": (0, {"r": (1, {"q": 513}), "s": 3})}),
        "w": [{"r": (0, {"p": 1}), "s": 2}, {"r": (1, {"q": 4}), "s": 5}],
    }
    return record, [
        ("v.tag", 0), ("v.d.t", 9), ("v.d.u.tag", 0), ("v.d.u.c.r.tag", 1), ("v.d.u.c.r.b.q", 513), ("v.d.u.c.s", 3),
        ("w.0.r.tag", 0), ("w.0.r.a.p", 1), ("w.0.s", 2), ("w.1.r.tag", 1), ("w.1.r.b.q", 4), ("w.1.s", 5),
    ]


class Flat(unittest.TestCase):

    def test_words_and_tags_in_their_order(self):
        for shape, (record, rows) in ((FIGURE, figure()), (PICKED, picked())):
            self.assertEqual(plain(flat(shape, record)), plain(rows))

    def test_a_blank_record(self):
        self.assertEqual(flat(PICKED, blank(PICKED))[:6], [
            ("v.tag", 0), ("v.d.t", 0), ("v.d.u.tag", 0), ("v.d.u.c.r.tag", 0), ("v.d.u.c.r.a.p", 0), ("v.d.u.c.s", 0)])

    def test_another_choice(self):
        record, rows = picked()
        self.assertEqual(flat(PICKED, dict(record, v=(1, {"q": 8}))), [("v.tag", 1), ("v.b.q", 8)] + rows[6:])
        choice = (0, {"t": 9, "u": (1, {"p": 6})})
        self.assertEqual(flat(PICKED, dict(record, v=choice)),
                         [("v.tag", 0), ("v.d.t", 9), ("v.d.u.tag", 1), ("v.d.u.a.p", 6)] + rows[6:])

    def test_the_order_of_keys_is_not_looked_at(self):
        record, rows = figure()
        turned = {name: record[name] for name in reversed(list(record))}
        turned["dot"] = {"y": 4, "x": 3}
        self.assertEqual(flat(FIGURE, turned), rows)

    def test_one_dict_at_several_places(self):
        record, rows = figure()
        one = {"x": 1, "y": 2}
        told = flat(FIGURE, dict(record, dots=[one, one], dot=one))
        self.assertEqual(told[7:11], [("dots.0.x", 1), ("dots.0.y", 2), ("dots.1.x", 1), ("dots.1.y", 2)])

    def test_it_has_the_leaves_that_are_there_and_the_tags(self):
        for seed in range(80):
            shape = read_shapes(some_text(seed)).main()
            rows = flat(shape, some_record(shape, random.Random(seed)))
            tags = {path[:-len(".tag")]: number for path, number in rows if path.endswith(".tag")}
            outer = [path for path, width, sort in shape.units() if sort == "tag"]
            there = [leaf[0] for leaf in shape.leaves() if all(tags.get(pick) == number for pick, number in leaf[4])]
            self.assertEqual([path for path, number in rows if path not in outer], there)
            self.assertEqual([path for path, number in rows if path in outer], outer)

    def test_no_record_is_refused(self):
        record, rows = figure()
        for thing in ODD + [rows, [record], (record,), dict(record, z=0), dict(record, n=-1), dict(record, n=True),
                            dict(record, rows=[1, 2]), dict(record, what=(0, record["what"][1])), picked()[0]]:
            refused(self, NoRecord, {"found": thing}, flat, FIGURE, thing)

    def test_the_record_stays_and_the_list_is_new(self):
        record, rows = figure()
        told = flat(FIGURE, record)
        told.clear()
        self.assertEqual(plain(record), plain(figure()[0]))
        self.assertEqual(flat(FIGURE, record), rows)


class OfFlat(unittest.TestCase):

    def test_the_record_is_told(self):
        for shape, (record, rows) in ((FIGURE, figure()), (PICKED, picked())):
            self.assertEqual(plain(of_flat(shape, rows)), plain(record))

    def test_there_and_back(self):
        for seed in range(80):
            for shape in read_shapes(some_text(seed)).shapes:
                record = some_record(shape, random.Random(seed))
                rows = flat(shape, record)
                told = of_flat(shape, rows)
                self.assertEqual(plain(told), plain(record))
                self.assertTrue(is_apart(told, rows))
                self.assertEqual(flat(shape, told), rows)

    def test_the_record_is_new_each_time(self):
        record, rows = figure()
        told, again = of_flat(FIGURE, rows), of_flat(FIGURE, rows)
        self.assertTrue(is_apart([told, again]))
        told["rows"][0] = told["dots"][0]["x"] = 99
        self.assertEqual(of_flat(FIGURE, rows), record)
        rows[0] = ("what.tag", 0)
        self.assertEqual(again, record)

    def test_bounds_of_words(self):
        for width in (1, 2, 3, 4):
            shape = read_shapes("shape a\nx num %d" % width).main()
            for word in (0, 256 ** width - 1):
                self.assertEqual(of_flat(shape, [("x", word)]), {"x": word})
            for word in (-1, 256 ** width, 256 ** width + 1, 10 ** 29, -(10 ** 29)):
                rows = [("x", word)]
                refused(self, NoRecord, {"found": rows}, of_flat, shape, rows)

    def test_bounds_of_tags(self):
        ahead = "shape a\nx num 1\nshape b\nx num 1\nshape c\nx num 1\nshape d\nx num 1\nshape e\nv pick "
        for names in ("a b", "a b c", "a b c d"):
            shape = read_shapes(ahead + names).main()
            for number in range(-3, 8):
                there = 0 <= number < len(names.split(" "))
                rows = [("v.tag", number), ("v.%s.x" % "abcd"[number if there else 0], 7)]
                if there:
                    self.assertEqual(of_flat(shape, rows), {"v": (number, {"x": 7})})
                else:
                    refused(self, NoRecord, {"found": rows}, of_flat, shape, rows)

    def test_each_change_of_the_list_is_refused(self):
        for shape, (record, rows) in ((FIGURE, figure()), (PICKED, picked())):
            for at, (path, number) in enumerate(rows):
                wrong = [
                    rows[:at] + rows[at + 1:], rows[:at] + [rows[at]] + rows[at:], rows[:at], rows[at + 1:],
                    rows[:at] + [("zz", 0)] + rows[at:],
                ]
                if at:
                    wrong.append(rows[:at - 1] + [rows[at], rows[at - 1]] + rows[at + 1:])
                for thing in (("zz", number), (path + ".x", number), (path + " ", number), ("", number), (path, -1),
                              (path, 256 ** 4), (path, True), (path, False), (path, None), (path, str(number)),
                              (path, [number]), (path, (number,)), (None, number), (0, number), ((path,), number),
                              ([path], number), [path, number], (path,), (path, number, 0), (number, path), path,
                              number, {path: number}, (), None, True, [], {}):
                    wrong.append(rows[:at] + [thing] + rows[at + 1:])
                for handed in wrong:
                    refused(self, NoRecord, {"found": handed}, of_flat, shape, handed)

    def test_a_path_too_many_behind(self):
        for shape, (record, rows) in ((FIGURE, figure()), (PICKED, picked())):
            for row in rows + [("zz", 0), None, 0, [], ()]:
                handed = rows + [row]
                refused(self, NoRecord, {"found": handed}, of_flat, shape, handed)

    def test_what_another_choice_has(self):
        record, rows = figure()
        for handed in ([("what.tag", 0)] + rows[1:], [("what.tag", 2)] + rows[1:], rows[1:]):
            refused(self, NoRecord, {"found": handed}, of_flat, FIGURE, handed)

    def test_other_things(self):
        record, rows = figure()
        for thing in ODD + [tuple(rows), dict(rows), [rows], [tuple(rows)], record, (rows,), iter(())]:
            refused(self, NoRecord, {"found": thing}, of_flat, FIGURE, thing)

    def test_a_list_of_another_shape(self):
        handed = figure()[1]
        refused(self, NoRecord, {"found": handed}, of_flat, PICKED, handed)

    def test_the_rows_stay(self):
        rows = figure()[1]
        of_flat(FIGURE, rows)
        self.assertEqual(rows, figure()[1])
        self.assertIs(is_record(FIGURE, of_flat(FIGURE, rows)), True)


if __name__ == "__main__":
    unittest.main()
