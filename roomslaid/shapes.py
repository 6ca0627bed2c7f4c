"""Kinds of fields, shapes made of them, and the shapes of a text."""

from roomslaid.errors import NoPath
from roomslaid.words import is_count, number_in


def joined(path, step):
    """The path that goes one step on."""
    return f"{path}.{step}" if path else f"{step}"


class Kind:
    """What the four kinds have in common; it is not made by itself.

    Each kind tells its word, text, size and depth, and by `led` the kind to
    which a step leads from it, None where it leads to none.
    """

    def parted(self):
        """The parts that lie one behind the other in it, as tuples (step, kind)."""
        return []

    def step_of(self, word):
        """The step that is meant by a word of a path that stands behind this kind."""
        return word

    def units_at(self, path):
        """The units of what lies under the path."""
        rows = []
        for step, kind in self.parted():
            rows.extend(kind.units_at(joined(path, step)))
        return rows

    def leaves_at(self, path, unit, offset, holds):
        """The leaves of what lies under the path, at this cell of the unit; unit is None outside of picks."""
        rows = []
        at = offset
        for step, kind in self.parted():
            rows.extend(kind.leaves_at(joined(path, step), unit, at, holds))
            at += kind.size()
        return rows


class Num(Kind):
    """A word of a width from 1 to 4."""

    def __init__(self, width):
        self.width = width

    def word(self):
        return "num"

    def text(self):
        return f"num {self.width}"

    def size(self):
        return self.width

    def depth(self):
        return 0

    def led(self, step):
        return None

    def units_at(self, path):
        return [(path, self.width, "num")]

    def leaves_at(self, path, unit, offset, holds):
        if unit is None:
            return [(path, self.width, path, 0, holds)]
        return [(path, self.width, unit, offset, holds)]


class Nested(Kind):
    """A shape within a shape: the kind that names it."""

    def __init__(self, shape):
        self.shape = shape

    def word(self):
        return "shape"

    def text(self):
        return self.shape.name

    def size(self):
        return self.shape.size()

    def depth(self):
        return self.shape.depth()

    def parted(self):
        return list(self.shape.fields)

    def led(self, step):
        for name, kind in self.shape.fields:
            if name == step:
                return kind
        return None


class Many(Kind):
    """A row: so many of one kind, which is a num or a shape."""

    def __init__(self, count, kind):
        self.count = count
        self.kind = kind

    def word(self):
        return "row"

    def text(self):
        return f"row {self.count} {self.kind.text()}"

    def size(self):
        return self.count * self.kind.size()

    def depth(self):
        return self.kind.depth()

    def parted(self):
        return [(number, self.kind) for number in range(self.count)]

    def step_of(self, word):
        return number_in(word, 0, self.count - 1)

    def led(self, step):
        # Which numbers the row has is not asked here: by the shape alone each number leads on.
        return self.kind if is_count(step) else None


class Pick(Kind):
    """A choice between two to four shapes, with a tag that tells which one is chosen."""

    def __init__(self, shapes):
        self.shapes = tuple(shapes)

    def word(self):
        return "pick"

    def text(self):
        return " ".join(["pick"] + [shape.name for shape in self.shapes])

    def size(self):
        return 1 + self.greatest()

    def greatest(self):
        """How many cells what is chosen has at most."""
        return max([shape.size() for shape in self.shapes])

    def depth(self):
        return max([shape.depth() for shape in self.shapes])

    def led(self, step):
        for shape in self.shapes:
            if shape.name == step:
                return Nested(shape)
        return None

    def units_at(self, path):
        return [(joined(path, "tag"), 1, "tag"), (path, self.greatest(), "pick")]

    def leaves_at(self, path, unit, offset, holds):
        if unit is None:
            return self.chosen_leaves(path, path, 0, holds)
        tag = (joined(path, "tag"), 1, unit, offset, holds)
        return [tag] + self.chosen_leaves(path, unit, offset + 1, holds)

    def chosen_leaves(self, path, unit, offset, holds):
        """The leaves of each of the shapes, all of which begin at the same cell."""
        rows = []
        for number, shape in enumerate(self.shapes):
            way = holds + ((path, number),)
            rows.extend(Nested(shape).leaves_at(joined(path, shape.name), unit, offset, way))
        return rows


class Shape:
    """A name, and fields in their order, each a tuple (name, kind)."""

    def __init__(self, name, fields):
        self.name = name
        self.fields = tuple([(field, kind) for field, kind in fields])

    def size(self):
        """How many cells its fields have together."""
        return sum([kind.size() for name, kind in self.fields])

    def depth(self):
        """One more than the greatest depth of its kinds."""
        return 1 + max([kind.depth() for name, kind in self.fields])

    def units(self):
        """Its parts that are laid as one, as tuples (path, width, sort)."""
        return Nested(self).units_at("")

    def leaves(self):
        """Its words, and the tags of picks within picks, as tuples (path, width, unit, offset, holds)."""
        return Nested(self).leaves_at("", None, 0, ())

    def kind_of(self, path):
        """The kind to which the path leads."""
        if not isinstance(path, str):
            raise NoPath(path)
        kind = Nested(self)
        words = path.split(".") if path else []
        for word in words:
            kind = kind.led(kind.step_of(word))
            if kind is None:
                raise NoPath(path)
        return kind


class Shapes:
    """The shapes that a text tells, in their order; the last one is the main one."""

    def __init__(self, shapes):
        self.shapes = tuple(shapes)

    def shape_of(self, name):
        """The shape of this name."""
        for shape in self.shapes:
            if shape.name == name:
                return shape
        raise NoPath(name)

    def main(self):
        """The shape told last."""
        return self.shapes[-1]

    def text(self):
        """The text that tells these shapes."""
        lines = []
        for shape in self.shapes:
            lines.append(f"shape {shape.name}")
            lines.extend([f"{name} {kind.text()}" for name, kind in shape.fields])
        return "\n".join(lines)
