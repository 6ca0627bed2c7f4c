"""Shapes within shapes opened in their place, and closed again; paths, programs, layings and records led along."""

from roomslaid.errors import NoOpen, NoPath, TooMuch
from roomslaid.flats import flat, of_flat
from roomslaid.layingtext import laid_in, read_laying
from roomslaid.program import form_of, lines_in, read_program, step_in
from roomslaid.shapes import Many, Nested, Num, Pick, Shape, Shapes
from roomslaid.shapetext import MOST_DEPTH, MOST_FIELDS, kind_in
from roomslaid.words import is_between, is_name


class Opening:
    """Shapes before and after a field of one of them, a shape itself, is opened in its place."""

    def __init__(self, shapes, name, field, names):
        shape = shape_named(shapes, name)
        inner = inner_shape(shape, field)
        need_given(shape, field, inner, names)
        fields = opened_fields(shape, field, inner, names)
        if len(fields) > MOST_FIELDS:
            raise TooMuch(-1)
        self.before = shapes
        self.after = reshaped(shapes, name, fields)
        self.name = name
        self.field = field
        self.given = tuple(names)
        self.inner_names = tuple(names_of(inner.fields))

    def onward(self, path):
        """The path after of what the path before leads to."""
        words = []
        is_within = False
        for kind, word in pairs_on(self.before.main(), path):
            if is_within:
                words.append(self.given[self.inner_names.index(word)])
                is_within = False
            elif self.is_named(kind) and word == self.field:
                is_within = True
            else:
                words.append(word)
        if is_within:
            raise NoPath(path)
        return ".".join(words)

    def backward(self, path):
        """The path before of what the path after leads to."""
        words = []
        for kind, word in pairs_on(self.after.main(), path):
            if self.is_named(kind) and word in self.given:
                words.extend([self.field, self.inner_names[self.given.index(word)]])
            else:
                words.append(word)
        return ".".join(words)

    def is_named(self, kind):
        """Whether this is the kind that names the shape of which a field is opened."""
        return isinstance(kind, Nested) and kind.shape.name == self.name

    def program_onward(self, text):
        """The text of a program for the shapes before, as one for the shapes after."""
        read_program(self.before, text)
        return with_paths(text, {path: self.onward(path) for path in paths_in(text)})

    def program_backward(self, text):
        """The text of a program for the shapes after, as one for the shapes before."""
        read_program(self.after, text)
        return with_paths(text, {path: self.backward(path) for path in paths_in(text)})

    def laying_onward(self, text):
        """The text of a laying for the shapes before, as one for the shapes after."""
        read_laying(self.before, text)
        return with_units(text, {unit: self.onward(unit) for unit, width, sort in self.before.main().units()})

    def laying_backward(self, text):
        """The text of a laying for the shapes after, as one for the shapes before."""
        read_laying(self.after, text)
        return with_units(text, {unit: self.backward(unit) for unit, width, sort in self.after.main().units()})

    def record_onward(self, record):
        """The record of the main shape after that has the same words and choices."""
        rows = flat(self.before.main(), record)
        return of_flat(self.after.main(), [(self.onward(path), number) for path, number in rows])

    def record_backward(self, record):
        """The record of the main shape before that has the same words and choices."""
        rows = flat(self.after.main(), record)
        return of_flat(self.before.main(), [(self.backward(path), number) for path, number in rows])


def closing(shapes, name, first, count, inner, field):
    """The opening whose shapes after are these, and which opens so many fields from the first one on."""
    shape = shape_named(shapes, name)
    if not is_between(first, 0, len(shape.fields) - 1):
        raise NoOpen(first)
    if not is_between(count, 1, len(shape.fields) - first):
        raise NoOpen(count)
    ahead, closed, behind = shape.fields[:first], shape.fields[first:first + count], shape.fields[first + count:]
    within = closed_shape(shapes, name, closed, inner)
    if not is_name(field) or field in names_of(ahead + behind):
        raise NoOpen(field)
    before = reshaped(shapes, name, ahead + ((field, Nested(within)),) + behind)
    if max([told.depth() for told in before.shapes]) > MOST_DEPTH:
        raise TooMuch(-1)
    opening = Opening(before, name, field, names_of(closed))
    opening.after = shapes
    return opening


def names_of(fields):
    """The names of the fields, in their order."""
    return [name for name, kind in fields]


def texts_of(fields):
    """The texts of the fields' kinds, in their order."""
    return [kind.text() for name, kind in fields]


def shape_named(shapes, name):
    """The shape of this name."""
    for shape in shapes.shapes:
        if shape.name == name:
            return shape
    raise NoOpen(name)


def inner_shape(shape, field):
    """The shape that the field of this name is."""
    kind = Nested(shape).led(field)
    if not isinstance(kind, Nested):
        raise NoOpen(field)
    return kind.shape


def need_given(shape, field, inner, names):
    """Refuses what is no list of a new name for each field of the inner shape."""
    if not isinstance(names, list) or len(names) != len(inner.fields) or not all([is_name(name) for name in names]):
        raise NoOpen(names)
    others = [name for name in names_of(shape.fields) if name != field]
    if len(set(names)) != len(names) or any([name in others for name in names]):
        raise NoOpen(names)


def opened_fields(shape, field, inner, names):
    """The fields of the shape with those of the inner one, under new names, in the place of that field."""
    opened = [(name, kind) for name, (own, kind) in zip(names, inner.fields)]
    at = names_of(shape.fields).index(field)
    return list(shape.fields[:at]) + opened + list(shape.fields[at + 1:])


def closed_shape(shapes, name, closed, inner):
    """The shape called inner, which stands ahead of the named one, its fields being of the closed ones' kinds."""
    for shape in shapes.shapes:
        if shape.name == name:
            break
        if shape.name == inner and texts_of(shape.fields) == texts_of(closed):
            return shape
    raise NoOpen(inner)


def reshaped(shapes, name, fields):
    """The shapes with these fields in the named one; all kinds name the new shapes."""
    told = {}
    for shape in shapes.shapes:
        rows = fields if shape.name == name else shape.fields
        told[shape.name] = Shape(shape.name, [(field, kind_in(kind.text().split(" "), told)) for field, kind in rows])
    return Shapes([told[own] for own in told])


def pairs_on(shape, path):
    """The words of the path, each behind the kind from which it leads on; refuses what is no path of the shape."""
    if not isinstance(path, str):
        raise NoPath(path)
    words = path.split(".") if path else []
    kind = Nested(shape)
    pairs = []
    for word in words:
        pairs.append((kind, word))
        kind = kind_behind(kind, word)
        if kind is None:
            raise NoPath(path)
    return pairs


def kind_behind(kind, word):
    """The kind to which a word of a path leads, None where it leads to none."""
    if isinstance(kind, Pick) and word == "tag":
        # A tag is like a word of one cell: from it no step leads on.
        return Num(1)
    if isinstance(kind, Many):
        return kind.kind if step_in(kind, word) is not None else None
    return kind.led(word)


def path_place(words):
    """The place of the path among the words of a program's line, None where it has none."""
    deed, form = form_of(0, words)
    return form.index("PATH") if "PATH" in form else None


def paths_in(text):
    """The paths that stand in a program's text."""
    rows = [line.split(" ") for line in lines_in(text)]
    return [words[path_place(words)] for words in rows if path_place(words) is not None]


def with_paths(text, ways):
    """A program's text with each path put otherwise as ways tells."""
    return "\n".join([row_with(line.split(" "), ways) for line in lines_in(text)])


def row_with(words, ways):
    """A program's line with its path, where it has one, put otherwise as ways tells."""
    at = path_place(words)
    return " ".join([ways[word] if place == at else word for place, word in enumerate(words)])


def with_units(text, ways):
    """A laying's text with each unit put otherwise as ways tells."""
    head, *lines = text.split("\n")
    return "\n".join([head] + [part_with(line.split(" "), ways) for line in lines])


def part_with(words, ways):
    """A part's line with each unit put otherwise as ways tells."""
    laid = laid_in(words)
    return " ".join(words[:-len(laid)] + [ways[unit] for unit in laid])
