"""Whole numbers, names, figures, and words in cells."""

import unittest

from roomslaid.words import bound_of, cells_of, is_alike, is_name, is_whole, is_word, number_in, own_words, word_of
from tests.helper import ODD, plain

OWN = ("shape num row pick tag room things part tags put take many look which store choose copy each span "
       "if else end out").split(" ")
BIG = 10 ** 160 - 1


class Whole(unittest.TestCase):

    def test_whole_numbers(self):
        for thing in (0, 1, -1, 255, 256, 10 ** 29, -(10 ** 29)):
            self.assertIs(is_whole(thing), True)

    def test_truths_are_none(self):
        self.assertIs(is_whole(True), False)
        self.assertIs(is_whole(False), False)

    def test_other_things_are_none(self):
        for thing in ODD:
            self.assertIs(is_whole(thing), type(thing) is int, repr(thing))


class Names(unittest.TestCase):

    def test_one_to_six_letters(self):
        for thing in ("a", "z", "ab", "abc", "abcd", "abcde", "abcdef", "zzzzzz", "azazaz", "mnopqr"):
            self.assertIs(is_name(thing), True, thing)

    def test_none_and_seven_letters(self):
        for thing in ("", "abcdefg", "aaaaaaa", "a" * 8000):
            self.assertIs(is_name(thing), False, thing)

    def test_each_small_letter(self):
        for letter in "abcdefghijklmnopqrstuvwxyz":
            self.assertIs(is_name(letter), True, letter)
            self.assertIs(is_name("a" + letter + "a"), True, letter)

    def test_each_other_sign(self):
        for sign in [chr(number) for number in range(32, 127) if not 97 <= number <= 122] + ["\n"]:
            for thing in (sign, "a" + sign, sign + "a", "a" + sign + "a"):
                self.assertIs(is_name(thing), False, repr(thing))

    def test_own_words_are_none(self):
        for word in OWN:
            self.assertIs(is_name(word), False, word)

    def test_words_beside_own_words_are_names(self):
        for word in OWN:
            for beside in (word[:-1], word[1:], word + "a", "a" + word, word[:-1] + "z", word[::-1]):
                wanted = 1 <= len(beside) <= 6 and beside not in OWN
                self.assertIs(is_name(beside), wanted, beside)

    def test_other_things_are_none(self):
        for thing in ODD:
            self.assertIs(is_name(thing), type(thing) is str and thing == "a", repr(thing))
        for thing in (["a"], ("a",), {"a": "a"}, [], ("a", "b"), b"a"):
            self.assertIs(is_name(thing), False)


class OwnWords(unittest.TestCase):

    def test_they_stand_in_their_order(self):
        self.assertEqual(own_words(), OWN)

    def test_the_list_is_new_each_time(self):
        told = own_words()
        told.remove("shape")
        told.append("a")
        self.assertEqual(own_words(), OWN)
        self.assertIs(is_name("shape"), False)
        self.assertIs(is_name("a"), True)


class Figures(unittest.TestCase):

    def test_each_sign(self):
        for sign in [chr(number) for number in range(32, 127)] + ["\n"]:
            for text in (sign, "1" + sign, sign + "1"):
                is_number = sign in "0123456789" and text != "01"
                self.assertEqual(number_in(text, 0, 99), int(text) if is_number else None, repr(text))

    def test_a_number(self):
        for text, number in (("0", 0), ("7", 7), ("10", 10), ("1234567890", 1234567890), ("9999999999", 9999999999)):
            self.assertEqual(number_in(text, 0, 10 ** 12), number)
            self.assertIs(type(number_in(text, 0, 10 ** 12)), int)

    def test_each_figure(self):
        for figure in range(10):
            self.assertEqual(number_in(str(figure), 0, 9), figure)
            self.assertEqual(number_in("1" + str(figure), 0, 99), 10 + figure)

    def test_ten_and_eleven_figures(self):
        self.assertEqual(number_in("1000000000", 0, 10 ** 20), 10 ** 9)
        self.assertIsNone(number_in("10000000000", 0, 10 ** 20))
        self.assertIsNone(number_in("9" * 8000, 0, 10 ** 29))

    def test_noughts_ahead(self):
        for text in ("00", "01", "007", "0000000000", "000000001"):
            self.assertIsNone(number_in(text, 0, 10 ** 12), text)

    def test_low_and_high(self):
        for text, told in (("4", None), ("5", 5), ("6", 6), ("7", 7), ("8", None)):
            self.assertEqual(number_in(text, 5, 7), told)
        self.assertEqual(number_in("5", 5, 5), 5)
        self.assertEqual(number_in("0", -3, 0), 0)
        self.assertEqual(number_in("12", -(10 ** 29), 10 ** 29), 12)

    def test_no_number_is_from_a_greater_to_a_smaller_one(self):
        for text in ("5", "6", "7"):
            self.assertIsNone(number_in(text, 7, 5))

    def test_a_number_below_low_0_is_not_written(self):
        self.assertIsNone(number_in("-1", -5, 5))
        self.assertIsNone(number_in("0", -5, -1))

    def test_other_texts(self):
        for text in ("", " ", "1 ", " 1", "+1", "-0", "1.0", "1_0", "1e3", "a", "1a", "a1", "0x1", "1\n", "\n1",
                     "\u0661", "\u00b2", "1/", ":"):
            self.assertIsNone(number_in(text, 0, 10 ** 12), repr(text))

    def test_other_things(self):
        for thing in ODD:
            told = {"0": 0, "1": 1}.get(thing) if type(thing) is str else None
            self.assertEqual(number_in(thing, 0, 9), told, repr(thing))
        for thing in (["1"], ("1",), [1], 1, b"1", {"1": "1"}):
            self.assertIsNone(number_in(thing, 0, 9))


class Cells(unittest.TestCase):

    def test_the_least_worth_stands_first(self):
        self.assertEqual(cells_of(1, 1), [1])
        self.assertEqual(cells_of(1, 3), [1, 0, 0])
        self.assertEqual(cells_of(256, 2), [0, 1])
        self.assertEqual(cells_of(0x04030201, 4), [1, 2, 3, 4])
        self.assertEqual(cells_of(0, 2), [0, 0])

    def test_the_rest_by_the_width(self):
        for width in (1, 2, 3, 4, 63, 64):
            bound = 256 ** width
            self.assertEqual(cells_of(bound - 1, width), [255] * width)
            self.assertEqual(cells_of(bound, width), [0] * width)
            self.assertEqual(cells_of(bound + 1, width), [1] + [0] * (width - 1))
            self.assertEqual(cells_of(bound - 2, width), [254] + [255] * (width - 1))

    def test_numbers_below_0(self):
        self.assertEqual(cells_of(-1, 1), [255])
        self.assertEqual(cells_of(-2, 3), [254, 255, 255])
        self.assertEqual(cells_of(-256, 2), [0, 255])
        self.assertEqual(cells_of(-257, 2), [255, 254])
        self.assertEqual(cells_of(-1, 64), [255] * 64)
        self.assertEqual(cells_of(-(256 ** 2), 2), [0, 0])

    def test_many_figures(self):
        for number in (BIG, -BIG, 10 ** 159, -(10 ** 159), 256 ** 64 - 1, 256 ** 64, -(256 ** 64)):
            for width in (1, 4, 63, 64):
                rest = number % 256 ** width
                self.assertEqual(cells_of(number, width), list(rest.to_bytes(width, "little")))

    def test_they_are_new_each_time(self):
        told = cells_of(5, 2)
        told[0] = 9
        self.assertEqual(cells_of(5, 2), [5, 0])


class Words(unittest.TestCase):

    def test_the_number_of_cells(self):
        self.assertEqual(word_of([7]), 7)
        self.assertEqual(word_of([1, 2]), 513)
        self.assertEqual(word_of([0, 0, 0, 1]), 256 ** 3)
        self.assertEqual(word_of([255] * 64), 256 ** 64 - 1)
        self.assertEqual(word_of([0] * 63 + [255]), 255 * 256 ** 63)

    def test_no_cells(self):
        self.assertEqual(word_of([]), 0)

    def test_the_list_stays(self):
        cells = [1, 2, 3]
        word_of(cells)
        self.assertEqual(cells, [1, 2, 3])

    def test_there_and_back(self):
        for number in (0, 1, 255, 256, 65535, 65536, 256 ** 64 - 1, 256 ** 64, BIG, -1, -BIG):
            for width in (1, 2, 64):
                self.assertEqual(word_of(cells_of(number, width)), number % 256 ** width)


class WordsOfAWidth(unittest.TestCase):

    def test_bounds(self):
        for width in (1, 2, 3, 4):
            self.assertEqual(bound_of(width), 256 ** width)
            for number, wanted in ((-1, False), (0, True), (256 ** width - 1, True), (256 ** width, False)):
                self.assertIs(is_word(number, width), wanted)

    def test_other_things(self):
        for thing in (True, False, None, "1", [1], (1,), {1: 1}):
            self.assertIs(is_word(thing, 1), False)


class Alike(unittest.TestCase):

    def test_things_that_are_of_the_same_kinds(self):
        for thing in (0, 1, -1, "", "a", None, True, False, [], (), [0], (0,), [(1, "a"), None, [True]], ([], ((),))):
            for wanted in (0, 1, -1, "", "a", None, True, False, [], (), [0], (0,), [(1, "a"), None, [True]], ([], ((),))):
                self.assertIs(is_alike(thing, wanted), plain(thing) == plain(wanted), (thing, wanted))

    def test_odd_things(self):
        for thing in ODD:
            self.assertIs(is_alike(thing, [("a", 1)]), False)

    def test_one_kind_for_another(self):
        wanted = [("a", 1, 0, None, [True, False])]
        self.assertIs(is_alike([("a", 1, 0, None, [True, False])], wanted), True)
        for thing in ([["a", 1, 0, None, [True, False]]], [("a", True, 0, None, [True, False])], [("a", 1, False, None, [True, False])],
                      [("a", 1, 0, None, (True, False))], [("a", 1, 0, None, [1, False])], [("a", 1, 0, None, [True, 0])],
                      [("a", 1, 0, None, [True])], [("a", 1, 0, None)], [("a", 1, 0, None, [True, False])] * 2, (wanted[0],), []):
            self.assertIs(is_alike(thing, wanted), False)


if __name__ == "__main__":
    unittest.main()
