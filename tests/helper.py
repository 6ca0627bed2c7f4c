"""What several tests need: things of all kinds, refusals that are looked at, and shapes to try."""

import copy
import random

from roomslaid.errors import NoRoom, RoomError
from roomslaid.room import Room
from roomslaid.shapes import Nested, Num, Shape, Shapes

ODD = [
    None, True, False, 0, 1, 2, 255, 256, -1, 10 ** 29, -(10 ** 29), "", "a", "0", "1", "00", "shape", "tag", ".",
    "a b", "a\n", [], [0], ["a"], [[]], (), (0,), (0, 0), (0, 0, 8), (0, 0, 8, 0), ("a",), (None,), {}, {"a": 0},
    {0: 1}, {None: []}, [[[[[[[[[[[[]]]]]]]]]]]], Room(1), Num(1), NoRoom(0), Shape("a", [("x", Num(1))]),
    Nested(Shape("a", [("x", Num(1))])), Shapes([Shape("a", [("x", Num(1))])]),
]

DRAWING = "\n".join([
    "shape dot", "x num 2", "y num 1",
    "shape line", "from dot", "to dot",
    "shape circ", "mid dot", "r num 4",
    "shape fig", "what pick line circ", "rows row 3 num 2", "dots row 2 dot", "n num 3", "dot dot",
])

PICKS = "\n".join([
    "shape a", "p num 1",
    "shape b", "q num 2",
    "shape c", "r pick a b", "s num 1",
    "shape d", "t num 3", "u pick c a",
    "shape e", "v pick d b", "w row 2 c",
])


def refusal(case, kind, call, *handed):
    """The refusal of that very class that the call raises; what is handed in stays as it was."""
    before = plain(handed)
    with case.assertRaises(RoomError) as caught:
        call(*handed)
    case.assertEqual(plain(handed), before)
    case.assertIs(caught.exception.__class__, kind)
    return caught.exception


def refused(case, kind, fields, call, *handed):
    """Asserts that the call is refused with that class, its fields being these very things."""
    error = refusal(case, kind, call, *handed)
    case.assertEqual(list(vars(error)), list(fields))
    for name, thing in fields.items():
        case.assertIs(getattr(error, name), thing)


def refused_at(case, kind, fields, call, *handed):
    """Asserts that the call is refused with that class, its fields being equal to these."""
    case.assertEqual(vars(refusal(case, kind, call, *handed)), fields)


def plain(thing):
    """The thing as a text that tells lists, dicts, kinds and numbers apart."""
    return repr(thing)


def inner_things(thing):
    """All lists and dicts within the thing, itself too, as often as they stand there."""
    found = [thing] if isinstance(thing, (list, dict)) else []
    if isinstance(thing, dict):
        thing = list(thing.values())
    if isinstance(thing, (list, tuple)):
        for item in thing:
            found.extend(inner_things(item))
    return found


def is_apart(told, *others):
    """Whether no list or dict stands twice in what is told, and none of them in the others."""
    numbers = [id(thing) for thing in inner_things(told)]
    for other in others:
        numbers.extend({id(thing) for thing in inner_things(other)})
    return len(numbers) == len(set(numbers))


def some_text(seed):
    """A text of shapes that keeps to the bounds, made by this seed."""
    dice = random.Random(seed)
    lines, told = [], []
    for name in ["ab", "b", "cdefgh", "dd", "nums", "tagg"][:dice.randint(1, 6)]:
        fields, room = [], 30
        for field in ["x", "ab", "yy", "zz"][:dice.randint(1, 4)]:
            text, size, depth = some_kind(dice, told)
            if size <= room and depth < 4:
                fields.append((field, text, size, depth))
                room -= size
        fields = fields or [("x", "num 1", 1, 0)]
        lines += ["shape " + name] + [field + " " + text for field, text, size, depth in fields]
        told.append((name, sum(row[2] for row in fields), 1 + max(row[3] for row in fields)))
    return "\n".join(lines)


def some_kind(dice, told):
    """The text, size and depth of a kind that may stand behind the shapes told."""
    word = dice.choice(["num", "shape", "row", "rows", "pick", "pick"])
    width, count = dice.randint(1, 4), dice.randint(1, 6)
    if word == "row":
        return "row %d num %d" % (count, width), count * width, 0
    if word == "num" or not told or word == "pick" and len(told) < 2:
        return "num %d" % width, width, 0
    if word == "pick":
        picked = dice.sample(told, dice.randint(2, min(4, len(told))))
        names = " ".join(name for name, size, depth in picked)
        return "pick " + names, 1 + max(row[1] for row in picked), max(row[2] for row in picked)
    name, size, depth = dice.choice(told)
    if word == "shape":
        return name, size, depth
    return "row %d %s" % (count, name), count * size, depth


def some_record(shape, dice):
    """A record of the shape with words and choices that are drawn."""
    return {name: some_value(kind, dice) for name, kind in shape.fields}


def some_value(kind, dice):
    """What a field of this kind may have."""
    if kind.word() == "num":
        return dice.choice([0, 1, 255, 256 ** kind.width - 1, dice.randrange(256 ** kind.width)])
    if kind.word() == "shape":
        return some_record(kind.shape, dice)
    if kind.word() == "row":
        return [some_value(kind.kind, dice) for number in range(kind.count)]
    number = dice.randrange(len(kind.shapes))
    return (number, some_record(kind.shapes[number], dice))


def with_thing(record, steps, thing):
    """A copy of the record in which the thing stands where the steps lead, whatever it is."""
    if not steps:
        return thing
    changed = copy.copy(record) if not isinstance(record, tuple) else list(record)
    changed[steps[0]] = with_thing(changed[steps[0]], steps[1:], thing)
    return tuple(changed) if isinstance(record, tuple) else changed
