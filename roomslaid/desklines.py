"""The lines that are said to a desk: their forms, and what stands in them."""

from roomslaid.errors import NoDesk
from roomslaid.layingtext import MOST_THINGS
from roomslaid.words import is_name, number_in

MOST_NUMBER = 9999999999
LINE_MARK = " / "
# Each form of a line, behind the word of its answer. LAYING is the name of a laying that is kept, THING the
# number of a thing that is.
FORMS = (
    ("shapes", ("shapes", "TEXT")),
    ("program", ("program", "TEXT")),
    ("thing", ("thing", "SETS")),
    ("clear", ("clear",)),
    ("show", ("show", "THING")),
    ("laying", ("laying", "NAME", "TEXT")),
    ("by thing", ("made", "NAME", "thing", "NUMBER", "NUMBER")),
    ("by field", ("made", "NAME", "field", "NUMBER")),
    ("by blocks", ("made", "NAME", "blocks", "NUMBER", "NUMBER")),
    ("packed", ("made", "NAME", "packed", "NUMBER")),
    ("run", ("run", "MOST", "NUMBER", "PUTS")),
    ("cells", ("cells", "LAYING", "NUMBER", "PUTS")),
    ("looks", ("looks", "MOST", "NUMBER", "PUTS")),
    ("places", ("places", "LAYING", "NUMBER", "PUTS")),
    ("lines", ("lines", "LAYING", "NUMBER", "NUMBER", "NUMBER", "PUTS")),
    ("table", ("table", "NUMBER", "NUMBER", "NUMBER", "PUTS")),
    ("turn", ("turn", "LAYING", "LAYING", "STEPS", "NUMBER", "PUTS")),
    ("place", ("place", "LAYING", "WORD", "NUMBER")),
    ("leaf", ("leaf", "LAYING", "WORD", "NUMBER")),
    ("paper", ("paper", "LAYING")),
    ("open", ("open", "NAME", "NAME", "NAMES")),
)
# The parts that stand for all words up to the line's end.
REST_PARTS = ("TEXT", "SETS", "PUTS", "NAMES")


def read_line(line):
    """The word of the line's answer, its form, and what the line tells for each part of this form."""
    words = line.split(" ") if isinstance(line, str) else []
    if "" not in words:
        for answer, form in FORMS:
            values = values_in(form, words)
            if values is not None:
                return answer, form, values
    raise NoDesk(line)


def values_in(form, words):
    """What the words tell for each part of the form, None where they haven't this form."""
    single = [part for part in form if part not in REST_PARTS]
    if len(words) < len(single) or (len(single) == len(form) and len(words) > len(form)):
        return None
    values = [value_in(part, word) for part, word in zip(single, words)]
    if len(single) < len(form):
        values.append(rest_in(form[-1], words[len(single):]))
    return None if None in values else values


def value_in(part, word):
    """What the word tells for this part of a form, None where it can't stand for it."""
    if part in ("NAME", "LAYING"):
        return word if is_name(word) else None
    if part in ("NUMBER", "THING"):
        return whole_in(word)
    if part == "MOST":
        return number_in(word, 1, MOST_THINGS)
    if part == "STEPS":
        return all_in([whole_in(step) for step in word.split(",")])
    if part == "WORD":
        return word
    return word if word == part else None


def rest_in(part, words):
    """What the words up to the line's end tell for this part of a form, None where they can't stand for it."""
    if part == "TEXT":
        return " ".join(words).replace(LINE_MARK, "\n") if words else None
    if part == "SETS":
        return all_in([set_in(word) for word in words])
    if part == "PUTS":
        return puts_in(words)
    return all_in([value_in("NAME", word) for word in words]) if words else None


def whole_in(word):
    """The number that the word writes, or None."""
    return number_in(word, 0, MOST_NUMBER)


def all_in(values):
    """The values, None where one of them is None."""
    return None if None in values else values


def set_in(word):
    """The steps, the sign and the number of a word of a thing's line, or None."""
    signs = [sign for sign in word if sign in "=:"]
    if not signs:
        return None
    path, sign, figures = word.partition(signs[0])
    number = whole_in(figures)
    return None if number is None else (steps_in_set(path), sign, number)


def steps_in_set(path):
    """The steps of such a word's path: each part that writes a number is a step of that number."""
    return tuple([part if whole_in(part) is None else whole_in(part) for part in path.split(".")])


def puts_in(words):
    """The inputs that these words tell, a dict by names, or None."""
    puts = {}
    for word in words:
        name, sign, figures = word.partition("=")
        if not is_name(name) or name in puts or whole_in(figures) is None:
            return None
        puts[name] = whole_in(figures)
    return puts


def shown_lines(text):
    """A text of lines as an answer shows it."""
    return text.replace("\n", LINE_MARK)
