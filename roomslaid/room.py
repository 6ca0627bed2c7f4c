"""Places, and a room of cells in which words and packed tags lie at them."""

from roomslaid.errors import NoPlace, NoRoom
from roomslaid.words import cells_of, is_between, is_whole, word_of

CELL_BITS = 8
MOST_PLACE_CELLS = 64
TAG_BITS = 2
TAG_SHIFTS = (0, 2, 4, 6)
MOST_ROOM_CELLS = 8192


def is_place(thing):
    """Whether the thing is a place: a tuple (cell, shift, bits) of whole cells or of a packed tag."""
    if not isinstance(thing, tuple) or len(thing) != 3:
        return False
    if not all([is_whole(part) for part in thing]):
        return False
    cell, shift, bits = thing
    return cell >= 0 and (is_packed(shift, bits) or is_whole_cells(shift, bits))


def is_packed(shift, bits):
    """Whether these are the shift and bits of a packed tag."""
    return bits == TAG_BITS and shift in TAG_SHIFTS


def is_whole_cells(shift, bits):
    """Whether these are the shift and bits of some whole cells."""
    cells, rest = divmod(bits, CELL_BITS)
    return shift == 0 and rest == 0 and 1 <= cells <= MOST_PLACE_CELLS


def need_place(thing):
    """Refuses what is no place."""
    if not is_place(thing):
        raise NoPlace(thing)


def cells_in(place):
    """The numbers of the cells in which the place has bits, rising."""
    need_place(place)
    cell, shift, bits = place
    return list(range(cell, cell + max(1, bits // CELL_BITS)))


def shares(one, other):
    """Whether two places share a bit of the room."""
    need_place(one)
    need_place(other)
    return first_bit(one) < bit_behind(other) and first_bit(other) < bit_behind(one)


def first_bit(place):
    """The number of the place's first bit, all bits of a room being counted from 0."""
    cell, shift, bits = place
    return cell * CELL_BITS + shift


def bit_behind(place):
    """The number of the bit right behind the place's last one."""
    cell, shift, bits = place
    return first_bit(place) + bits


class Room:
    """So many cells, all of them 0 at first."""

    def __init__(self, wide):
        if not is_between(wide, 1, MOST_ROOM_CELLS):
            raise NoRoom(wide)
        self.wide = wide
        self.held = [0] * wide

    def taken(self, place):
        """The whole number that the place has."""
        numbers = self.numbers_within(place)
        cell, shift, bits = place
        return (self.kept_in(numbers) >> shift) % (1 << bits)

    def left(self, place, number):
        """Leaves the number's rest by 2 ** bits at the place; all other bits stay."""
        numbers = self.numbers_within(place)
        cell, shift, bits = place
        kept = self.kept_in(numbers)
        change = number % (1 << bits) - (kept >> shift) % (1 << bits)
        self.held[cell:cell + len(numbers)] = cells_of(kept + (change << shift), len(numbers))

    def cells(self):
        """All cells of the room, a new list each time."""
        return list(self.held)

    def numbers_within(self, place):
        """The numbers of the place's cells; refuses a place that reaches behind the room's last cell."""
        numbers = cells_in(place)
        if numbers[-1] >= self.wide:
            raise NoPlace(place)
        return numbers

    def kept_in(self, numbers):
        """The whole number that the cells of these numbers keep."""
        return word_of([self.held[cell] for cell in numbers])
