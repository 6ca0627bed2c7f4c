"""Records as flat lists of their words and tags, each with its path."""

from roomslaid.errors import NoRecord
from roomslaid.records import gathered, is_record
from roomslaid.shapes import Nested, Num, Pick, joined
from roomslaid.words import bound_of, is_whole


def flat(shape, record):
    """All words and tags that are in the record, as tuples (path, number)."""
    if not is_record(shape, record):
        raise NoRecord(record)
    return flat_under(Nested(shape), "", record)


def flat_under(kind, path, value):
    """The words and tags of a value of this kind that stands under the path."""
    if isinstance(kind, Num):
        return [(path, value)]
    if isinstance(kind, Pick):
        number, record = value
        shape = kind.shapes[number]
        return [(joined(path, "tag"), number)] + flat_under(Nested(shape), joined(path, shape.name), record)
    rows = []
    for step, inner in kind.parted():
        rows.extend(flat_under(inner, joined(path, step), value[step]))
    return rows


def of_flat(shape, rows):
    """The record whose flat list this is."""
    if not isinstance(rows, list) or not all([is_row(row) for row in rows]):
        raise NoRecord(rows)
    record, behind = value_from(Nested(shape), "", rows, 0)
    if behind != len(rows):
        raise NoRecord(rows)
    return record


def is_row(thing):
    """Whether the thing is a tuple of a text and a whole number."""
    return isinstance(thing, tuple) and len(thing) == 2 and isinstance(thing[0], str) and is_whole(thing[1])


def value_from(kind, path, rows, at):
    """The value of this kind that the rows tell from that one on, and the number of the row behind it."""
    if isinstance(kind, Num):
        return number_from(path, bound_of(kind.width), rows, at), at + 1
    if isinstance(kind, Pick):
        number = number_from(joined(path, "tag"), len(kind.shapes), rows, at)
        shape = kind.shapes[number]
        record, behind = value_from(Nested(shape), joined(path, shape.name), rows, at + 1)
        return (number, record), behind
    values = []
    behind = at
    for step, inner in kind.parted():
        value, behind = value_from(inner, joined(path, step), rows, behind)
        values.append(value)
    return gathered(kind, values), behind


def number_from(path, bound, rows, at):
    """The number of that row, which has to have this path and a number below the bound."""
    if at >= len(rows) or rows[at][0] != path or not 0 <= rows[at][1] < bound:
        raise NoRecord(rows)
    return rows[at][1]
