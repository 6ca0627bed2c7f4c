"""Places, and rooms of cells."""

import random
import unittest

from roomslaid.errors import NoPlace, NoRoom
from roomslaid.room import Room, cells_in, need_place, shares
from tests.helper import ODD, refused

SHIFTS = (0, 2, 4, 6)
BIG = 10 ** 160 - 1

NO_PLACES = [thing for thing in ODD if thing != (0, 0, 8)] + [
    [0, 0, 8], (0, 0), (0, 0, 8, 8), ((0, 0, 8),), "008", {0: 0, 1: 0, 2: 8},
    (-1, 0, 8), (-1, 2, 2), (True, 0, 8), (False, 0, 8), (None, 0, 8), ("0", 0, 8), ([0], 0, 8), ((0,), 0, 8),
    (0, False, 8), (0, True, 8), (0, None, 8), (0, "0", 8), (0, [], 8), (0, 1, 8), (0, 2, 8), (0, 8, 8), (0, -8, 8),
    (0, 0, True), (0, 0, False), (0, 0, None), (0, 0, "8"), (0, 0, [8]), (0, 0, 0), (0, 0, 1), (0, 0, 3), (0, 0, 4),
    (0, 0, 7), (0, 0, 9), (0, 0, 12), (0, 0, 511), (0, 0, 513), (0, 0, 520), (0, 0, 1024), (0, 0, -8), (0, 0, -2),
    (0, 1, 2), (0, 3, 2), (0, 5, 2), (0, 7, 2), (0, 8, 2), (0, -2, 2), (0, False, 2), (0, 2, 4), (0, 2, 1), (0, 4, 16),
    (0, "2", 2), (0, 2, "2"), (0, 2, True), (0, 2, 6), (0, 6, 8), (0, 2, 512),
]


def bits_of(place):
    """The numbers of all bits of the place, one by one."""
    cell, shift, bits = place
    return {cell * 8 + shift + number for number in range(bits)}


def some_places(cells):
    """Places of both sorts in the first so many cells."""
    places = [(cell, shift, 2) for cell in range(cells) for shift in SHIFTS]
    return places + [(cell, 0, 8 * wide) for cell in range(cells) for wide in range(1, cells - cell + 1)]


class Places(unittest.TestCase):

    def test_whole_cells_are_let_by(self):
        for cell in (0, 1, 8191, 10 ** 29):
            for wide in range(1, 65):
                self.assertIsNone(need_place((cell, 0, 8 * wide)))

    def test_packed_tags_are_let_by(self):
        for cell in (0, 1, 8191, 10 ** 29):
            for shift in SHIFTS:
                self.assertIsNone(need_place((cell, shift, 2)))

    def test_no_places_are_refused(self):
        for thing in NO_PLACES:
            refused(self, NoPlace, {"found": thing}, need_place, thing)

    def test_every_small_shift_and_number_of_bits(self):
        for shift in range(-2, 12):
            for bits in range(-9, 530):
                whole = shift == 0 and bits in range(8, 513, 8)
                if whole or bits == 2 and shift in SHIFTS:
                    self.assertIsNone(need_place((3, shift, bits)))
                else:
                    self.assertRaises(NoPlace, need_place, (3, shift, bits))


class CellsIn(unittest.TestCase):

    def test_whole_cells(self):
        self.assertEqual(cells_in((0, 0, 8)), [0])
        self.assertEqual(cells_in((5, 0, 24)), [5, 6, 7])
        self.assertEqual(cells_in((100, 0, 512)), list(range(100, 164)))
        self.assertEqual(cells_in((10 ** 29, 0, 16)), [10 ** 29, 10 ** 29 + 1])

    def test_packed_tags(self):
        for shift in SHIFTS:
            self.assertEqual(cells_in((9, shift, 2)), [9])

    def test_no_places_are_refused(self):
        for thing in NO_PLACES:
            refused(self, NoPlace, {"found": thing}, cells_in, thing)

    def test_the_list_is_new_each_time(self):
        place = (5, 0, 16)
        cells_in(place).append(7)
        self.assertEqual(cells_in(place), [5, 6])


class Shares(unittest.TestCase):

    def test_all_pairs_of_some_places(self):
        places = some_places(4)
        for one in places:
            for other in places:
                self.assertIs(shares(one, other), bool(bits_of(one) & bits_of(other)), (one, other))

    def test_far_places(self):
        self.assertIs(shares((0, 0, 512), (63, 6, 2)), True)
        self.assertIs(shares((0, 0, 512), (64, 0, 2)), False)
        self.assertIs(shares((63, 0, 8), (0, 0, 512)), True)
        self.assertIs(shares((64, 0, 8), (0, 0, 512)), False)

    def test_no_places_are_refused_the_first_one_first(self):
        good = (0, 0, 8)
        for thing in NO_PLACES:
            refused(self, NoPlace, {"found": thing}, shares, thing, good)
            refused(self, NoPlace, {"found": thing}, shares, good, thing)
        one, other = [1], [2]
        refused(self, NoPlace, {"found": one}, shares, one, other)


class Rooms(unittest.TestCase):

    def test_it_has_so_many_cells_that_are_0(self):
        for wide in (1, 2, 64, 8191, 8192):
            room = Room(wide)
            self.assertEqual(room.wide, wide)
            self.assertIs(type(room.wide), int)
            self.assertEqual(room.cells(), [0] * wide)

    def test_other_widths_are_refused(self):
        for wide in [0, -1, 8193, 10 ** 29, -(10 ** 29), True, False, None, "1", [1], (1,), {1: 1}, "", 8192 * 2]:
            refused(self, NoRoom, {"found": wide}, Room, wide)
        for wide in ODD:
            if type(wide) is not int:
                refused(self, NoRoom, {"found": wide}, Room, wide)

    def test_cells_are_told_anew_each_time(self):
        room = Room(2)
        told = room.cells()
        told[0] = 7
        told.append(1)
        self.assertEqual(room.cells(), [0, 0])
        self.assertEqual(room.taken((0, 0, 16)), 0)

    def test_two_rooms_have_nothing_in_common(self):
        one, other = Room(2), Room(2)
        one.left((0, 0, 8), 5)
        self.assertEqual(other.cells(), [0, 0])
        self.assertEqual(one.cells(), [5, 0])


class TakenAndLeft(unittest.TestCase):

    def test_whole_cells(self):
        room = Room(6)
        self.assertIsNone(room.left((1, 0, 24), 0x030201))
        self.assertEqual(room.cells(), [0, 1, 2, 3, 0, 0])
        self.assertEqual(room.taken((1, 0, 24)), 0x030201)
        self.assertEqual(room.taken((2, 0, 8)), 2)
        self.assertEqual(room.taken((0, 0, 48)), 0x03020100)
        self.assertEqual(room.taken((3, 0, 16)), 3)

    def test_packed_tags(self):
        for shift in SHIFTS:
            for number in range(4):
                room = Room(3)
                room.left((1, shift, 2), number)
                self.assertEqual(room.cells(), [0, number * 2 ** shift, 0])
                self.assertEqual(room.taken((1, shift, 2)), number)

    def test_other_bits_stay(self):
        for full in (0, 255, 0b10010011, 0b01101100):
            for place in some_places(4):
                for number in (0, 1, 2, 3, 255, 256 ** 4 - 1, 0x5A69, -1, -2):
                    room = Room(4)
                    room.left((0, 0, 32), full * 0x01010101)
                    before = room.taken((0, 0, 32))
                    room.left(place, number)
                    mask = sum(2 ** bit for bit in bits_of(place))
                    cell, shift, bits = place
                    wanted = (before & ~mask) | (number % 2 ** bits) * 2 ** (8 * cell + shift)
                    self.assertEqual(room.taken((0, 0, 32)), wanted, (full, place, number))
                    self.assertEqual(room.taken(place), number % 2 ** bits)
                    self.assertEqual(len(room.cells()), 4)

    def test_the_rest_by_the_bits(self):
        for wide in (1, 2, 4, 63, 64):
            place, bound = (1, 0, 8 * wide), 256 ** wide
            for number in (bound - 1, bound, bound + 1, -1, -bound, -bound - 1, BIG, -BIG, 0):
                room = Room(66)
                room.left((0, 0, 512), -1)
                room.left((64, 0, 16), -1)
                room.left(place, number)
                self.assertEqual(room.taken(place), number % bound)
                outside = [cell for at, cell in enumerate(room.cells()) if not 1 <= at <= wide]
                self.assertEqual(outside, [255] * (66 - wide))
        for number in (-1, -4, -5, 4, 5, 7, BIG, -BIG):
            for shift in SHIFTS:
                room = Room(1)
                room.left((0, shift, 2), number)
                self.assertEqual(room.taken((0, shift, 2)), number % 4)
                self.assertEqual(room.cells(), [number % 4 * 2 ** shift])

    def test_a_place_at_the_last_cell(self):
        for wide in (1, 64, 8192):
            room = Room(wide)
            last = wide - 1
            room.left((last, 0, 8), 7)
            self.assertEqual(room.taken((last, 0, 8)), 7)
            room.left((last, 6, 2), 3)
            self.assertEqual(room.taken((last, 6, 2)), 3)
            self.assertEqual(room.cells(), [0] * last + [7 + 192])
        room = Room(64)
        room.left((0, 0, 512), 256 ** 64 - 2)
        self.assertEqual(room.cells(), [254] + [255] * 63)

    def test_a_place_past_the_last_cell_is_refused(self):
        for wide in (1, 63, 64, 8192):
            room = Room(wide)
            room.left((wide - 1, 0, 8), 9)
            before = room.cells()
            past = [(wide, 0, 8), (wide - 1, 0, 16), (wide, 0, 2), (wide, 6, 2), (wide + 1, 0, 8), (10 ** 29, 0, 8)]
            for place in past + ([(0, 0, 512)] if wide < 64 else [(wide - 63, 0, 512)]):
                refused(self, NoPlace, {"found": place}, room.taken, place)
                refused(self, NoPlace, {"found": place}, room.left, place, 1)
                self.assertEqual(room.cells(), before)

    def test_no_places_are_refused(self):
        room = Room(80)
        room.left((0, 0, 512), 12345678901234567890)
        before = room.cells()
        for thing in NO_PLACES:
            refused(self, NoPlace, {"found": thing}, room.taken, thing)
            refused(self, NoPlace, {"found": thing}, room.left, thing, 1)
            self.assertEqual(room.cells(), before)

    def test_taking_changes_nothing(self):
        room = Room(3)
        room.left((0, 0, 24), 0x123456)
        for place in some_places(3):
            room.taken(place)
        self.assertEqual(room.cells(), [0x56, 0x34, 0x12])

    def test_many_deeds_against_a_list_of_bits(self):
        dice = random.Random(7)
        room, kept = Room(70), [0] * 560
        for deed in range(600):
            place = (dice.randrange(70), dice.choice(SHIFTS), 2)
            if dice.random() < 0.5:
                cell = dice.randrange(70)
                place = (cell, 0, 8 * dice.randint(1, min(64, 70 - cell)))
            number = dice.randrange(-(2 ** 520), 2 ** 520)
            for order, bit in enumerate(sorted(bits_of(place))):
                kept[bit] = number // 2 ** order % 2
            room.left(place, number)
            cells = [sum(kept[8 * at + bit] * 2 ** bit for bit in range(8)) for at in range(70)]
            self.assertEqual(room.cells(), cells)


if __name__ == "__main__":
    unittest.main()
