"""What several tests need: things of all kinds, refusals that are looked at, and shapes to try."""

import copy
import random

from roomslaid.cellstore import Cells
from roomslaid.desk import Desk
from roomslaid.errors import NoRoom, RoomError
from roomslaid.flats import flat
from roomslaid.kept import Kept
from roomslaid.layingtext import read_laying
from roomslaid.opening import Opening, closing
from roomslaid.program import read_program
from roomslaid.room import Room
from roomslaid.runs import run
from roomslaid.shapes import Nested, Num, Shape, Shapes
from roomslaid.shapetext import read_shapes
from roomslaid.stores import Plain
from roomslaid.turning import Turning

TINY = read_shapes("shape a\nx num 1")
TINY_LAYING = read_laying(TINY, "room 1 things 1\npart 0 1 1 : x")
TINY_PROGRAM = read_program(TINY, "out a")

ODD = [
    None, True, False, 0, 1, 2, 255, 256, -1, 10 ** 29, -(10 ** 29), "", "a", "0", "1", "00", "shape", "tag", ".",
    "a b", "a\n", [], [0], ["a"], [[]], (), (0,), (0, 0), (0, 0, 8), (0, 0, 8, 0), ("a",), (None,), {}, {"a": 0},
    {0: 1}, {None: []}, [[[[[[[[[[[[]]]]]]]]]]]], Room(1), Num(1), NoRoom(0), Shape("a", [("x", Num(1))]),
    Nested(Shape("a", [("x", Num(1))])), Shapes([Shape("a", [("x", Num(1))])]),
    TINY_LAYING, TINY_PROGRAM, TINY_PROGRAM.rows[0], TINY_LAYING.parts[0], Plain(TINY, 1, [{"x": 0}]), Cells(TINY_LAYING, []),
    Turning(TINY_LAYING, TINY_LAYING, []), run(TINY_PROGRAM, Plain(TINY, 1, []), {}, 1), Kept(1), Desk(),
    closing(read_shapes("shape a\nx num 1\nshape b\ny num 1"), "b", 0, 1, "a", "z"),
]

DRAWING = "\n".join([
    "shape dot", "x num 2", "y num 1",
    "shape line", "from dot", "to dot",
    "shape circ", "mid dot", "r num 4",
    "shape fig", "what pick line circ", "rows row 3 num 2", "dots row 2 dot", "n num 3", "dot dot",
])

PICKS = "\n".join([
    "shape a", "p num 1",
    "shape b", "q num 2",
    "shape c", "r pick a b", "s num 1",
    "shape d", "t num 3", "u pick c a",
    "shape e", "v pick d b", "w row 2 c",
])


def refusal(case, kind, call, *handed):
    """The refusal of that very class that the call raises; what is handed in stays as it was."""
    before = plain(handed)
    with case.assertRaises(RoomError) as caught:
        call(*handed)
    case.assertEqual(plain(handed), before)
    case.assertIs(caught.exception.__class__, kind)
    return caught.exception


def refused(case, kind, fields, call, *handed):
    """Asserts that the call is refused with that class, its fields being these very things."""
    error = refusal(case, kind, call, *handed)
    case.assertEqual(list(vars(error)), list(fields))
    for name, thing in fields.items():
        case.assertIs(getattr(error, name), thing)


def refused_at(case, kind, fields, call, *handed):
    """Asserts that the call is refused with that class, its fields being equal to these."""
    case.assertEqual(vars(refusal(case, kind, call, *handed)), fields)


def plain(thing):
    """The thing as a text that tells lists, dicts, kinds and numbers apart."""
    return repr(thing)


def inner_things(thing):
    """All lists and dicts within the thing, itself too, as often as they stand there."""
    found = [thing] if isinstance(thing, (list, dict)) else []
    if isinstance(thing, dict):
        thing = list(thing.values())
    if isinstance(thing, (list, tuple)):
        for item in thing:
            found.extend(inner_things(item))
    return found


def is_apart(told, *others):
    """Whether no list or dict stands twice in what is told, and none of them in the others."""
    numbers = [id(thing) for thing in inner_things(told)]
    for other in others:
        numbers.extend({id(thing) for thing in inner_things(other)})
    return len(numbers) == len(set(numbers))


def some_text(seed):
    """A text of shapes that keeps to the bounds, made by this seed."""
    dice = random.Random(seed)
    lines, told = [], []
    for name in ["ab", "b", "cdefgh", "dd", "nums", "tagg"][:dice.randint(1, 6)]:
        fields, room = [], 30
        for field in ["x", "ab", "yy", "zz"][:dice.randint(1, 4)]:
            text, size, depth = some_kind(dice, told)
            if size <= room and depth < 4:
                fields.append((field, text, size, depth))
                room -= size
        fields = fields or [("x", "num 1", 1, 0)]
        lines += ["shape " + name] + [field + " " + text for field, text, size, depth in fields]
        told.append((name, sum(row[2] for row in fields), 1 + max(row[3] for row in fields)))
    return "\n".join(lines)


def some_kind(dice, told):
    """The text, size and depth of a kind that may stand behind the shapes told."""
    word = dice.choice(["num", "shape", "row", "rows", "pick", "pick"])
    width, count = dice.randint(1, 4), dice.randint(1, 6)
    if word == "row":
        return "row %d num %d" % (count, width), count * width, 0
    if word == "num" or not told or word == "pick" and len(told) < 2:
        return "num %d" % width, width, 0
    if word == "pick":
        picked = dice.sample(told, dice.randint(2, min(4, len(told))))
        names = " ".join(name for name, size, depth in picked)
        return "pick " + names, 1 + max(row[1] for row in picked), max(row[2] for row in picked)
    name, size, depth = dice.choice(told)
    if word == "shape":
        return name, size, depth
    return "row %d %s" % (count, name), count * size, depth


def openings(shapes):
    """All openings of the shapes that there may be, each with new names."""
    found = []
    for shape in shapes.shapes:
        for name, kind in shape.fields:
            if kind.word() == "shape" and len(shape.fields) + len(kind.shape.fields) <= 7:
                names = ["qa", "qb", "qc", "qd", "qe", "qf"][:len(kind.shape.fields)]
                found.append(Opening(shapes, shape.name, name, names))
    return found


def some_record(shape, dice):
    """A record of the shape with words and choices that are drawn."""
    return {name: some_value(kind, dice) for name, kind in shape.fields}


def some_value(kind, dice):
    """What a field of this kind may have."""
    if kind.word() == "num":
        return dice.choice([0, 1, 255, 256 ** kind.width - 1, dice.randrange(256 ** kind.width)])
    if kind.word() == "shape":
        return some_record(kind.shape, dice)
    if kind.word() == "row":
        return [some_value(kind.kind, dice) for number in range(kind.count)]
    number = dice.randrange(len(kind.shapes))
    return (number, some_record(kind.shapes[number], dice))


def with_thing(record, steps, thing):
    """A copy of the record in which the thing stands where the steps lead, whatever it is."""
    if not steps:
        return thing
    changed = copy.copy(record) if not isinstance(record, tuple) else list(record)
    changed[steps[0]] = with_thing(changed[steps[0]], steps[1:], thing)
    return tuple(changed) if isinstance(record, tuple) else changed


def laid_at(units, text):
    """The place of each unit of each thing that a laying's text lays, by its sums, things rising, units in their order."""
    head, *lines = text.split("\n")
    wide = {path: width for path, width, sort in units}
    things = range(int(head.split(" ")[3]))
    found = {}
    for line in lines:
        words, laid = line.split(" : ")[0].split(" "), line.split(" : ")[1].split(" ")
        base = int(words[1])
        for unit in laid:
            at = laid.index(unit)
            for thing in things:
                if words[0] == "tags":
                    pair = thing * len(laid) + at
                    found[unit, thing] = (base + pair // 4, pair % 4 * 2, 2)
                else:
                    block, ahead = int(words[2]), sum(wide[other] for other in laid[:at])
                    cell = base + thing // block * block_length(line, wide) + block * ahead + thing % block * wide[unit]
                    found[unit, thing] = (cell, 0, 8 * wide[unit])
    return {(unit, thing): found[unit, thing] for thing in things for unit in wide if (unit, thing) in found}


def block_length(line, wide):
    """How many cells a block of this part's line has."""
    words, laid = line.split(" : ")[0].split(" "), line.split(" : ")[1].split(" ")
    length = int(words[2]) * sum(wide[unit] for unit in laid)
    while length % int(words[3]):
        length += 1
    return length


def bits_of(place):
    """The numbers of the room's bits that the place has."""
    cell, shift, bits = place
    return set(range(8 * cell + shift, 8 * cell + shift + bits))


def some_laying(shape, dice, things):
    """The text of a laying for so many things that is let by, with parts, blocks, pads and gaps that are drawn."""
    wide = {path: width for path, width, sort in shape.units()}
    tags = [path for path, width, sort in shape.units() if sort == "tag" and dice.random() < 0.5]
    groups = [("tags", tags)] if tags else []
    left = [path for path in wide if path not in tags]
    dice.shuffle(left)
    while left:
        many = dice.randint(1, len(left))
        groups.append(("part", left[:many]))
        left = left[many:]
    dice.shuffle(groups)
    lines, base = [], 0
    for word, laid in groups:
        base += dice.choice([0, 0, 1, 3])
        line = "tags %d : %s" % (base, " ".join(laid))
        if word == "part":
            block, pad = dice.choice([1, 1, 2, 3, things, 17]), dice.choice([1, 1, 2, 8, 64])
            line = "part %d %d %d : %s" % (base, block, pad, " ".join(laid))
        lines.append(line)
        whole = "\n".join(["room 1 things %d" % things] + lines)
        base = 1 + max(max(bits_of(place)) // 8 for place in laid_at(shape.units(), whole).values())
    return "\n".join(["room %d things %d" % (base + dice.choice([0, 1, 5]), things)] + lines)


def some_program(shape, dice):
    """The text of a program for things of this shape, with rows, loops and choices that are drawn."""
    paths = {"num": [], "pick": []}
    gather_paths(shape.kind_of(""), "", paths)
    lines, begun = ["one = 1"], []
    while len(lines) + len(begun) < 58 and (begun or dice.random() < 0.96):
        word = dice.choice(["row"] * 12 + ["begin"] * 2 + ["end"] * 4 + ["else"])
        if word == "row":
            lines.append(some_row(paths, dice))
        elif word == "begin" and len(begun) < 3:
            lines.append(dice.choice(["each i", "each j", "span i zero a", "span j zero two", "span k a i", "if a", "if b"]))
            begun.append(lines[-1].split(" ")[0])
        elif word == "else" and begun and begun[-1] == "if":
            begun[-1] = "else"
            lines.append("else")
        elif word == "end" and begun:
            begun.pop()
            lines.append("end")
    return "\n".join(lines + ["end"] * len(begun))


def some_row(paths, dice):
    """A line of a program that is no loop and no choice."""
    one, other, third = [dice.choice(["a", "b", "i", "j", "one", "two"]) for number in range(3)]
    goal = dice.choice(["a", "b", "k", "two"])
    thing = dice.choice(["i", "j", "i", "j", "zero", "zero", "one", "k"])
    lines = ["%s = %d" % (goal, dice.choice([0, 1, 2, 3, 255, 65536, 4294967295])), "%s = %s" % (goal, one),
             "%s = %s %s %s" % (goal, one, dice.choice("+-*<=&"), other), "%s = put" % goal, "take " + thing,
             "copy %s %s" % (thing, dice.choice(["i", "zero"])), "%s = many" % goal, "out " + one, "out " + goal]
    if paths["num"]:
        lines += ["%s = look %s %s" % (goal, thing, dice.choice(paths["num"])) for number in range(4)]
        lines += ["store %s %s %s" % (thing, dice.choice(paths["num"]), one) for number in range(3)]
    if paths["pick"]:
        lines += ["%s = which %s %s" % (goal, thing, dice.choice(paths["pick"])) for number in range(2)]
        lines += ["choose %s %s %s" % (thing, dice.choice(paths["pick"]), dice.choice(["zero", "one", "a"])) for number in range(2)]
    return dice.choice(lines)


def gather_paths(kind, path, paths):
    """Gathers the paths of a program to all nums and picks under this one, elements by figures and by a name."""
    dot = path and path + "."
    if kind.word() in paths:
        paths[kind.word()].append(path)
    if kind.word() == "shape":
        for name, inner in kind.shape.fields:
            gather_paths(inner, dot + name, paths)
    if kind.word() == "row":
        for step in ["0", str(kind.count - 1), "k", "zero"]:
            gather_paths(kind.kind, dot + step, paths)
    if kind.word() == "pick":
        for shape in kind.shapes:
            gather_paths(shape.kind_of(""), dot + shape.name, paths)


def some_steps(kind, dice):
    """Steps from this kind on, as a tuple: mostly such as lead somewhere, some to an element that the row has not."""
    if kind.word() == "num" or dice.random() < 0.04:
        return ()
    if kind.word() == "pick" and dice.random() < 0.5:
        return ()
    if dice.random() < 0.02:
        return (dice.choice(["tag", "", 0, -1, True, None, "zz", (), 10 ** 29]),)
    if kind.word() == "shape":
        name, inner = dice.choice(kind.shape.fields)
        return (name,) + some_steps(inner, dice)
    if kind.word() == "row":
        number = dice.choice([0, kind.count - 1, dice.randrange(kind.count), dice.randrange(kind.count + 1)])
        return (number,) + some_steps(kind.kind, dice)
    shape = dice.choice(kind.shapes)
    return (shape.name,) + some_steps(shape.kind_of(""), dice)


def some_deed(shape, dice, many):
    """A deed of a store that has so many things, as a tuple of its name and what is handed in, good or wrong."""
    def thing():
        return dice.choice([0, many - 1] + [dice.randrange(many or 1) for number in range(8)] + [many, -1, True, None, "0"])
    steps = some_steps(shape.kind_of(""), dice)
    word = dice.choice([0, 1, -1, 255, 256, 65537, 2 ** 32 - 1, 2 ** 32, -(10 ** 29), dice.randrange(2 ** 32)])
    return dice.choice([
        ("look", thing(), steps), ("store", thing(), steps, word), ("store", thing(), steps, word), ("which", thing(), steps),
        ("choose", thing(), steps, dice.choice([0, 1, 1, 2, 3, 4, -1, True])),
        ("choose", thing(), steps, dice.choice([0, 1])), ("copy", thing(), thing()), ("put",), ("put",), ("take", thing()),
    ])


def outcome(store, deed):
    """What the store tells of the deed, or the class and fields of its refusal, as a text."""
    name, *handed = deed
    try:
        return plain(getattr(store, name)(*handed))
    except RoomError as error:
        return plain((error.__class__.__name__, vars(error)))


def spots(shapes, text):
    """The place of each word and tag of each thing, by its path: units, and what lies within picks."""
    units = shapes.main().units()
    found = laid_at(units, text)
    things = {thing for unit, thing in found}
    inner = {}
    for path, width, unit, offset, holds in shapes.main().leaves():
        for thing in things:
            inner[path, thing] = (found[unit, thing][0] + offset, 0, 8 * width)
    return {**inner, **found}


def touched(shapes, at, record, deed, number):
    """The places that this deed touches, by the record that the thing has ahead of it; number is what it told."""
    units = [unit for unit, width, sort in shapes.main().units()]
    name, *handed = deed
    if name == "put":
        return [at[unit, number] for unit in units]
    thing = handed[0]
    if name == "take":
        return [at[unit, other] for unit in units for other in (number, thing)] if number != thing else []
    if name == "copy":
        return [at[unit, other] for unit in units for other in (handed[1], thing)]
    path = ".".join(str(step) for step in handed[1])
    tags = [there for there, tag in flat(shapes.main(), record) if there.endswith(".tag")]
    way = [at[tag, thing] for tag in tags if path.startswith(tag[:-3])]
    if name in ("look", "store"):
        return way + [at[path, thing]]
    own = [at[path + ".tag", thing]]
    if name == "which":
        return way + own
    pick = shapes.main().kind_of(path)
    within = at.get((path, thing), (own[0][0] + 1, 0, 8 * max(shape.size() for shape in pick.shapes)))
    return way + [within] + own


def bits_in(cells):
    """The numbers of all bits of the cells that are 1."""
    return {8 * cell + shift for cell, number in enumerate(cells) for shift in range(8) if number >> shift & 1}


def wanted_bits(shapes, at, records):
    """The numbers of the bits that are 1 by the words and tags of these records."""
    found = set()
    for thing, record in enumerate(records):
        for path, number in flat(shapes.main(), record):
            cell, shift, bits = at[path, thing]
            found |= {8 * cell + shift + bit for bit in range(bits) if number >> bit & 1}
    return found
