"""Records of shapes: told apart, made, copied, looked into and changed by steps."""

from roomslaid.errors import Beyond, NoPath, NoRecord, Other
from roomslaid.shapes import Many, Nested, Num, Pick
from roomslaid.words import bound_of, is_between, is_word


def is_record(shape, thing):
    """Whether the thing is a record of the shape."""
    return may_have(Nested(shape), thing)


def may_have(kind, thing):
    """Whether a field of this kind may have the thing."""
    if isinstance(kind, Num):
        return is_word(thing, kind.width)
    if isinstance(kind, Nested):
        return has_fields(kind, thing)
    if isinstance(kind, Many):
        return has_count(kind, thing)
    return is_choice(kind, thing)


def has_fields(kind, thing):
    """Whether the thing is a record of the shape that this kind names."""
    fields = kind.shape.fields
    if not isinstance(thing, dict) or len(thing) != len(fields):
        return False
    if not all([name in thing for name, inner in fields]):
        return False
    return all([may_have(inner, thing[name]) for name, inner in fields])


def has_count(kind, thing):
    """Whether the thing is a list of what this row may have."""
    if not isinstance(thing, list) or len(thing) != kind.count:
        return False
    return all([may_have(kind.kind, item) for item in thing])


def is_choice(kind, thing):
    """Whether the thing is a tuple of a number of this pick and a record of that shape."""
    if not isinstance(thing, tuple) or len(thing) != 2:
        return False
    return is_number_of(kind, thing[0]) and is_record(kind.shapes[thing[0]], thing[1])


def is_number_of(pick, thing):
    """Whether the thing is the number of one of the pick's shapes."""
    return is_between(thing, 0, len(pick.shapes) - 1)


def blank(shape):
    """The record with 0 in all its words and the number 0 in each pick."""
    return blank_of(Nested(shape))


def blank_of(kind):
    """What a field of this kind has in a blank record."""
    if isinstance(kind, Num):
        return 0
    if isinstance(kind, Pick):
        return (0, blank(kind.shapes[0]))
    return gathered(kind, [blank_of(inner) for step, inner in kind.parted()])


def gathered(kind, values):
    """What a shape's or a row's field has, of the values of its parts in their order."""
    if isinstance(kind, Many):
        return values
    return {name: value for (name, inner), value in zip(kind.parted(), values)}


def copied(record):
    """An equal record that has no list and no dict in common with this one."""
    if isinstance(record, dict):
        return {name: copied(record[name]) for name in record}
    if isinstance(record, list):
        return [copied(item) for item in record]
    if isinstance(record, tuple):
        return tuple([copied(item) for item in record])
    return record


def kind_at(shape, steps):
    """The kind to which the steps lead by the shape alone."""
    if not isinstance(steps, tuple):
        raise NoPath(steps)
    kind = Nested(shape)
    for step in steps:
        kind = kind.led(step)
        if kind is None:
            raise NoPath(steps)
    return kind


def look_at(shape, record, steps):
    """The word to which the steps lead."""
    kind, word = found_at(shape, record, steps, "num")
    return word


def which_at(shape, record, steps):
    """The number that is chosen in the pick to which the steps lead."""
    kind, choice = found_at(shape, record, steps, "pick")
    return choice[0]


def stored(shape, record, steps, word):
    """A new record with the rest of this whole number, by its width, as the word to which the steps lead."""
    kind, old = found_at(shape, record, steps, "num")
    return replaced(shape, record, steps, word % bound_of(kind.width))


def chosen(shape, record, steps, number):
    """A new record with this number chosen in the pick to which the steps lead, and its shape blank."""
    kind, old = found_at(shape, record, steps, "pick")
    if not is_number_of(kind, number):
        raise Beyond(number)
    return replaced(shape, record, steps, (number, blank(kind.shapes[number])))


def found_at(shape, record, steps, word):
    """The kind to which the steps lead, which has to be of this word, and what the record has there."""
    if not is_record(shape, record):
        raise NoRecord(record)
    return asked_kind(shape, steps, word), reached(shape, record, steps)


def asked_kind(shape, steps, word):
    """The kind to which the steps lead by the shape alone, which has to be of this word."""
    kind = kind_at(shape, steps)
    if kind.word() != word:
        raise NoPath(steps)
    return kind


def reached(shape, record, steps):
    """What the record has where the steps lead, which do lead on by the shape alone."""
    kind = Nested(shape)
    value = record
    for step in steps:
        value = stepped(kind, value, step)
        kind = kind.led(step)
    return value


def stepped(kind, value, step):
    """What lies one step behind this value of the kind."""
    if isinstance(kind, Pick):
        number, record = value
        need_chosen(kind, number, step)
        return record
    need_element(kind, step)
    return value[step]


def need_chosen(pick, number, step):
    """Refuses a step to a shape of the pick that is not the one of the number chosen there."""
    if pick.shapes[number].name != step:
        raise Other(step)


def need_element(kind, step):
    """Refuses a step to an element that the row has not; no other kind has elements."""
    if isinstance(kind, Many) and step >= kind.count:
        raise Beyond(step)


def replaced(shape, record, steps, value):
    """A copy of the record with another value where the steps lead, to a num or a pick."""
    fresh = copied(record)
    # A num or a pick never stands straight in a pick's tuple, so what holds it can be changed.
    holder = reached(shape, fresh, steps[:-1])
    holder[steps[-1]] = value
    return fresh
