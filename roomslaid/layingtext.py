"""Reads the text of a laying."""

from roomslaid.errors import Lacking, LaidTwice, Meets, NoLaying, Past, UnknownUnit
from roomslaid.layings import Block, Laying, Packed
from roomslaid.room import MOST_ROOM_CELLS, TAG_BITS, bit_behind, cells_in, first_bit
from roomslaid.words import number_in

MOST_THINGS = 64
MOST_PARTS = 40
MOST_BASE = 8191
MOST_BLOCK = 64
MOST_PAD = 64


def read_laying(shapes, text):
    """The laying for these shapes that the text tells."""
    if not isinstance(text, str):
        raise NoLaying(0)
    lines = text.split("\n")
    room, things = room_in(lines[0].split(" "))
    units = shapes.main().units()
    parts = []
    for line, row in enumerate(lines[1:], start=1):
        words = row.split(" ")
        need_part(line, words)
        need_units(parts, line, words, units)
        parts.append(part_in(words, units))
    need_all_laid(parts, units)
    laying = Laying(shapes, room, things, parts, text)
    need_places(laying, units)
    return laying


def room_in(words):
    """How many cells the room of line 0 has, and for how many things it is."""
    if len(words) != 4 or words[0] != "room" or words[2] != "things":
        raise NoLaying(0)
    cells = number_in(words[1], 1, MOST_ROOM_CELLS)
    things = number_in(words[3], 1, MOST_THINGS)
    if cells is None or things is None:
        raise NoLaying(0)
    return cells, things


def need_part(line, words):
    """Refuses a line that has not the form of a part, and a part too many."""
    if line > MOST_PARTS or "" in words or not (is_block_line(words) or is_packed_line(words)):
        raise NoLaying(line)


def is_block_line(words):
    """Whether the words are a part that lays units by blocks."""
    if len(words) < 6 or words[0] != "part" or words[4] != ":":
        return False
    if number_in(words[1], 0, MOST_BASE) is None or number_in(words[2], 1, MOST_BLOCK) is None:
        return False
    return number_in(words[3], 1, MOST_PAD) is not None


def is_packed_line(words):
    """Whether the words are a part that packs tags."""
    if len(words) < 4 or words[0] != "tags" or words[2] != ":":
        return False
    return number_in(words[1], 0, MOST_BASE) is not None


def laid_in(words):
    """The words of a part's line that stand behind its colon."""
    return words[words.index(":") + 1:]


def need_units(parts, line, words, units):
    """Refuses a part that lays something that can't be laid there, or that is laid ahead."""
    known = [path for path, width, sort in units if words[0] == "part" or sort == "tag"]
    laid = laid_in(words)
    for unit in laid:
        if unit not in known:
            raise UnknownUnit(line, unit)
    ahead = [unit for part in parts for unit in part.laid]
    for at, unit in enumerate(laid):
        if unit in ahead + laid[:at]:
            raise LaidTwice(line, unit)


def part_in(words, units):
    """The part that the words tell."""
    laid = laid_in(words)
    if words[0] == "tags":
        return Packed(int(words[1]), laid)
    wide = {path: width for path, width, sort in units}
    return Block(int(words[1]), int(words[2]), int(words[3]), laid, [wide[unit] for unit in laid])


def need_all_laid(parts, units):
    """Refuses parts in which a unit lacks."""
    laid = [unit for part in parts for unit in part.laid]
    for path, width, sort in units:
        if path not in laid:
            raise Lacking(path)


def need_places(laying, units):
    """Refuses a laying of which a place reaches past the room or meets one ahead of it."""
    order = [(path, thing) for thing in range(laying.things) for path, width, sort in units]
    had = {}
    for number, (unit, thing) in enumerate(order):
        place = laying.place(unit, thing)
        if cells_in(place)[-1] >= laying.room:
            raise Past(unit, thing, max(place[0], laying.room))
        pairs = bit_pairs(place)
        met = [had[pair] for pair in pairs if pair in had]
        if met:
            second, another = order[min(met)]
            raise Meets(unit, thing, second, another)
        for pair in pairs:
            had[pair] = number


def bit_pairs(place):
    """The numbers of the pairs of bits that the place has: no place parts such a pair."""
    return list(range(first_bit(place) // TAG_BITS, bit_behind(place) // TAG_BITS))
