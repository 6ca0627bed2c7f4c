"""A store of lines that keeps those touched last: what it fetches, by its touches and by their distances."""

import random
import unittest

from roomslaid.errors import NoKeep, NoLine
from roomslaid.kept import Kept, counts, distances, fetches, how_many, is_fetches
from tests.helper import ODD, is_apart, plain, refused

WALK = [3, 1, 3, 2, 1, 1, 4, 3, 2, 0, 3]
NO_LINES = [thing for thing in ODD if isinstance(thing, bool) or not isinstance(thing, int) or thing < 0]
NO_MOST = [thing for thing in ODD if isinstance(thing, bool) or not isinstance(thing, int) or not 1 <= thing <= 32] + [33, 0]


def last_used(lines, most):
    """The lines that a store has behind these touches: the unlike ones touched last, the last one first."""
    found = []
    for line in reversed(lines):
        if line not in found:
            found.append(line)
    return found[:most]


def told_touch(lines, at, most):
    """What a store tells of the touch at this place, by what it has ahead of it and behind it."""
    before, behind = last_used(lines[:at], most), last_used(lines[:at + 1], most)
    gone = [line for line in before if line not in behind]
    return (lines[at] not in before, gone[0] if gone else None)


def some_lines(dice):
    """A list of lines, some of which come again soon, some late."""
    many = dice.choice([1, 2, 4, 9, 40])
    lines = [dice.randrange(many) for number in range(dice.randrange(90))]
    return [line * 10 ** 28 for line in lines] if dice.random() < 0.2 else lines


class Touches(unittest.TestCase):

    def told(self, most, lines):
        kept = Kept(most)
        return [kept.touch(line) for line in lines], kept.lines_kept()

    def test_at_first_there_is_none(self):
        self.assertEqual(Kept(1).lines_kept(), [])
        self.assertEqual(Kept(32).lines_kept(), [])

    def test_the_one_touched_longest_ago_goes_out(self):
        told, lines = self.told(2, [5, 7, 5, 9, 7])
        self.assertEqual(told, [(True, None), (True, None), (False, None), (True, 7), (True, 5)])
        self.assertEqual(lines, [7, 9])

    def test_one_line(self):
        told, lines = self.told(1, [4, 4, 6, 6, 4])
        self.assertEqual(told, [(True, None), (False, None), (True, 4), (False, None), (True, 6)])
        self.assertEqual(lines, [4])

    def test_thirty_two_lines(self):
        told, lines = self.told(32, list(range(32)) + [0, 32, 1, 0])
        self.assertEqual(told[:32], [(True, None)] * 32)
        self.assertEqual(told[32:], [(False, None), (True, 1), (True, 2), (False, None)])
        self.assertEqual(lines, [0, 1, 32] + list(range(31, 2, -1)))

    def test_twice_in_a_row(self):
        told, lines = self.told(3, [8, 8, 8])
        self.assertEqual(told, [(True, None), (False, None), (False, None)])
        self.assertEqual(lines, [8])

    def test_a_line_that_went_out_comes_again(self):
        told, lines = self.told(2, [1, 2, 3, 1])
        self.assertEqual(told, [(True, None), (True, None), (True, 1), (True, 2)])
        self.assertEqual(lines, [1, 3])

    def test_the_line_0_goes_out(self):
        told, lines = self.told(1, [0, 1])
        self.assertEqual(plain(told), "[(True, None), (True, 0)]")

    def test_lines_of_many_figures(self):
        told, lines = self.told(2, [10 ** 29, 0, 10 ** 29 + 1, 10 ** 29])
        self.assertEqual(told, [(True, None), (True, None), (True, 10 ** 29), (True, 0)])
        self.assertEqual(lines, [10 ** 29, 10 ** 29 + 1])

    def test_truths_are_told(self):
        self.assertEqual(plain(self.told(2, [1, 1])), "([(True, None), (False, None)], [1])")

    def test_what_is_no_line(self):
        kept = Kept(2)
        kept.touch(1)
        kept.touch(0)
        for thing in NO_LINES:
            refused(self, NoLine, {"found": thing}, kept.touch, thing)
            self.assertEqual(plain(kept.lines_kept()), "[0, 1]")
        self.assertEqual(kept.touch(1), (False, None))

    def test_what_is_no_most(self):
        for thing in NO_MOST:
            refused(self, NoKeep, {"found": thing}, Kept, thing)

    def test_a_new_list_each_time(self):
        kept = Kept(2)
        kept.touch(1)
        kept.lines_kept().append(7)
        self.assertEqual(kept.lines_kept(), [1])
        self.assertTrue(is_apart(kept.lines_kept(), kept.lines_kept()))

    def test_two_stores_have_nothing_in_common(self):
        one, other = Kept(2), Kept(2)
        one.touch(1)
        self.assertEqual((other.lines_kept(), other.touch(1)), ([], (True, None)))

    def test_drawn(self):
        for seed in range(60):
            lines = some_lines(random.Random(seed))
            for most in (1, 2, 3, 8, 32):
                kept = Kept(most)
                for at, line in enumerate(lines):
                    self.assertEqual(kept.touch(line), told_touch(lines, at, most))
                    self.assertEqual(kept.lines_kept(), last_used(lines[:at + 1], most))


class Fetches(unittest.TestCase):

    def test_touch_by_touch(self):
        self.assertEqual(fetches([5, 7, 5, 9, 7], 2), [
            (5, True, None), (7, True, None), (5, False, None), (9, True, 7), (7, True, 5)])
        self.assertEqual(how_many([5, 7, 5, 9, 7], 2), 4)
        self.assertEqual(how_many([5, 7, 5, 9, 7], 3), 3)

    def test_no_lines(self):
        self.assertEqual((fetches([], 1), how_many([], 1), distances([]), counts([], 3)), ([], 0, [], [0, 0, 0]))

    def test_twice_asked(self):
        self.assertEqual(fetches(WALK, 3), fetches(WALK, 3))
        self.assertTrue(is_apart(fetches(WALK, 3), fetches(WALK, 3), WALK))

    def test_what_is_handed_in_stays(self):
        lines = list(WALK)
        fetches(lines, 2), how_many(lines, 2), distances(lines), counts(lines, 2), is_fetches(lines, 2, [])
        self.assertEqual(lines, WALK)

    def test_drawn(self):
        for seed in range(60):
            lines = some_lines(random.Random(seed))
            for most in (1, 2, 5, 32):
                wanted = [(line,) + told_touch(lines, at, most) for at, line in enumerate(lines)]
                self.assertEqual(plain(fetches(lines, most)), plain(wanted))
                self.assertEqual(how_many(lines, most), len([row for row in wanted if row[1]]))

    def test_the_longest_list(self):
        lines = list(range(10000)) * 2
        self.assertEqual(distances(lines), [None] * 10000 + [10000] * 10000)
        self.assertEqual(counts(lines, 32), [20000] * 32)


class Distances(unittest.TestCase):

    def test_by_hand(self):
        self.assertEqual(distances(WALK), [None, None, 2, None, 3, 1, None, 4, 4, None, 3])

    def test_one_and_none(self):
        self.assertEqual(distances([4, 4, 4]), [None, 1, 1])
        self.assertEqual(distances([4, 5, 4]), [None, None, 2])
        self.assertEqual(distances([4, 5, 5, 5, 4]), [None, None, 1, 1, 2])
        self.assertEqual(distances([10 ** 29, 10 ** 29 + 1, 10 ** 29]), [None, None, 2])

    def test_by_their_own_words(self):
        for seed in range(80):
            lines = some_lines(random.Random(seed))
            for at, far in enumerate(distances(lines)):
                if lines[at] not in lines[:at]:
                    self.assertIsNone(far)
                    continue
                since = at - 1 - lines[:at][::-1].index(lines[at])
                self.assertEqual(far, len(set(lines[since:at])))

    def test_a_touch_is_fetched_where_its_distance_is_greater(self):
        for seed in range(40):
            lines = some_lines(random.Random(seed))
            for most in (1, 2, 3, 7, 32):
                wanted = [far is None or far > most for far in distances(lines)]
                self.assertEqual([fetched for line, fetched, out in fetches(lines, most)], wanted)

    def test_counts(self):
        self.assertEqual(counts(WALK, 5), [10, 9, 7, 5, 5])
        self.assertEqual(counts([1, 1, 2], 1), [2])
        self.assertEqual(len(counts(WALK, 32)), 32)

    def test_counts_are_those_of_stores_and_never_rise(self):
        for seed in range(40):
            lines = some_lines(random.Random(seed))
            told = counts(lines, 32)
            self.assertEqual(told, [how_many(lines, most) for most in range(1, 33)])
            self.assertEqual(told, sorted(told, reverse=True))
            self.assertEqual(counts(lines, 5), told[:5])

    def test_new_lists(self):
        self.assertTrue(is_apart(distances(WALK), distances(WALK), counts(WALK, 2), counts(WALK, 2), WALK))


class IsFetches(unittest.TestCase):

    def test_the_list_itself(self):
        for lines, most in ((WALK, 1), (WALK, 3), (WALK, 32), ([], 1), ([0], 1)):
            self.assertIs(is_fetches(lines, most, fetches(lines, most)), True)

    def test_another_most_or_other_lines(self):
        self.assertIs(is_fetches(WALK, 2, fetches(WALK, 3)), False)
        self.assertIs(is_fetches(WALK[:-1], 3, fetches(WALK, 3)), False)
        self.assertIs(is_fetches(WALK, 3, fetches(WALK[:-1], 3)), False)

    def test_one_row_put_otherwise(self):
        rows = fetches([0, 1, 0, 2, 1], 2)
        self.assertEqual(rows, [(0, True, None), (1, True, None), (0, False, None), (2, True, 1), (1, True, 0)])
        for at, row in enumerate(rows):
            for other in (list(row), row[:2], row + (None,), (row[0] + 1,) + row[1:], (row[0], not row[1], row[2]),
                          (row[0], int(row[1]), row[2]), (row[0], row[1], 7), (row[0], row[1], False), (str(row[0]),) + row[1:],
                          (row[0], row[1], [row[2]]), None, (row,), (row[0], row[1], 0 if row[2] is None else None)):
                self.assertIs(is_fetches([0, 1, 0, 2, 1], 2, rows[:at] + [other] + rows[at + 1:]), False, other)

    def test_truths_for_numbers(self):
        self.assertIs(is_fetches([1, 0], 1, [(1, True, None), (0, True, 1)]), True)
        self.assertIs(is_fetches([1, 0], 1, [(True, True, None), (0, True, 1)]), False)
        self.assertIs(is_fetches([1, 0], 1, [(1, 1, None), (0, True, 1)]), False)
        self.assertIs(is_fetches([1, 0], 1, [(1, True, None), (False, True, 1)]), False)
        self.assertIs(is_fetches([1, 0], 1, [(1, True, None), (0, True, True)]), False)
        self.assertIs(is_fetches([0, 1], 1, [(0, True, None), (1, True, False)]), False)

    def test_rows_more_or_less(self):
        rows = fetches(WALK, 3)
        for thing in (rows[:-1], rows[1:], rows + rows[-1:], rows + [None], [rows], tuple(rows), rows[::-1], {}, dict(enumerate(rows))):
            self.assertIs(is_fetches(WALK, 3, thing), False)

    def test_whatever_is_handed_in(self):
        for thing in ODD:
            self.assertIs(is_fetches(WALK, 3, thing), False)
            self.assertIs(is_fetches([], 3, thing), isinstance(thing, list) and thing == [])


class Refused(unittest.TestCase):

    CALLS = [fetches, how_many, counts, lambda lines, most: is_fetches(lines, most, [])]

    def test_the_first_that_is_no_line(self):
        for thing in NO_LINES:
            for lines in ([thing], [1, 2, thing], [thing, "z"], [2, 2, thing, None, -5]):
                for call in self.CALLS:
                    refused(self, NoLine, {"found": thing}, call, lines, 2)
                    refused(self, NoLine, {"found": thing}, call, lines, 0)
                refused(self, NoLine, {"found": thing}, distances, lines)

    def test_then_what_is_no_most(self):
        for thing in NO_MOST:
            for call in self.CALLS:
                refused(self, NoKeep, {"found": thing}, call, [1, 2], thing)
                refused(self, NoKeep, {"found": thing}, call, [], thing)

    def test_is_fetches_refuses_ahead_of_its_answer(self):
        for thing in ODD:
            refused(self, NoLine, {"found": "z"}, is_fetches, ["z"], None, thing)
            refused(self, NoKeep, {"found": None}, is_fetches, [1], None, thing)


if __name__ == "__main__":
    unittest.main()
