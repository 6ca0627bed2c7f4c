"""Programs that go over things: their rows, loops and choices, read from a text."""

from roomslaid.errors import NoProgram, TooMuch, WrongPath
from roomslaid.shapes import Many, Nested
from roomslaid.words import bound_of, is_name, number_in

WORD_CELLS = 4
MOST_LINES = 60
MOST_NAMES = 12
MOST_BEGUN = 3
NAMES = ("A", "B", "C", "I", "J")
SIGNS = ("+", "-", "*", "<", "=", "&")
BEGINNINGS = ("each", "span", "if")
# Each form of a line, behind the deed of its row; where that is OP, the sign itself is the deed.
FORMS = (
    ("number", ("A", "=", "NUMBER")),
    ("name", ("A", "=", "B")),
    ("OP", ("A", "=", "B", "OP", "C")),
    ("look", ("A", "=", "look", "I", "PATH")),
    ("store", ("store", "I", "PATH", "B")),
    ("which", ("A", "=", "which", "I", "PATH")),
    ("choose", ("choose", "I", "PATH", "B")),
    ("copy", ("copy", "I", "J")),
    ("put", ("A", "=", "put")),
    ("take", ("take", "I")),
    ("many", ("A", "=", "many")),
    ("out", ("out", "A")),
    ("each", ("each", "I")),
    ("span", ("span", "I", "B", "C")),
    ("if", ("if", "A")),
    ("else", ("else",)),
    ("end", ("end",)),
)


class Row:
    """One line that does something; steps are those of its path."""

    def __init__(self, line, deed, goal, reads, steps, number):
        self.line = line
        self.deed = deed
        self.goal = goal
        self.reads = reads
        self.steps = steps
        self.number = number


class Loop:
    """The rows from a line each or span to its end."""

    def __init__(self, line, last, deed, goal, reads, rows):
        self.line = line
        self.last = last
        self.deed = deed
        self.goal = goal
        self.reads = reads
        self.rows = rows


class Choice:
    """The rows from a line if to its end; the others stand behind its else, the line in the middle."""

    def __init__(self, line, last, middle, reads, rows, others):
        self.line = line
        self.last = last
        self.middle = middle
        self.reads = reads
        self.rows = rows
        self.others = others


class Program:
    """The rows that a text tells, for the things of the shapes' main shape."""

    def __init__(self, shapes, rows, named, written):
        self.shapes = shapes
        self.rows = rows
        self.named = named
        self.written = written

    def names(self):
        """Its names, in the order in which they first stand, a new list each time."""
        return list(self.named)

    def text(self):
        """The text that was read."""
        return self.written


def read_program(shapes, text):
    """The program for these shapes that the text tells."""
    if not isinstance(text, str):
        raise NoProgram(0)
    lines = lines_in(text)
    told = []
    begun = []
    named = []
    for line, words in enumerate([row.split(" ") for row in lines]):
        deed, form = form_of(line, words)
        need_standing(begun, line, deed)
        row = row_in(shapes.main(), line, deed, dict(zip(form, words)))
        named = named + unlike(names_in(form, words, row.steps), named)
        if line >= MOST_LINES or len(named) > MOST_NAMES:
            raise TooMuch(line)
        begun = begun_behind(begun, deed)
        told.append(row)
    if begun:
        raise NoProgram(len(lines))
    rows, behind = rows_from(told, 0)
    return Program(shapes, rows, named, text)


def lines_in(text):
    """The lines of a program's text: the text without signs has none."""
    return text.split("\n") if text else []


def form_of(line, words):
    """The deed and the form of this line."""
    for deed, form in FORMS:
        if len(form) == len(words) and all([fits(part, word) for part, word in zip(form, words)]):
            return deed, form
    raise NoProgram(line)


def fits(part, word):
    """Whether the word may stand for this part of a form."""
    if part in NAMES:
        return is_name(word)
    if part == "NUMBER":
        return number_in(word, 0, bound_of(WORD_CELLS) - 1) is not None
    if part == "OP":
        return word in SIGNS
    if part == "PATH":
        return word != ""
    return word == part


def need_standing(begun, line, deed):
    """Refuses a line that can't stand within what is begun and has no end yet."""
    if deed == "else" and begun[-1:] != ["if"]:
        raise NoProgram(line)
    if deed == "end" and not begun:
        raise NoProgram(line)
    if deed in BEGINNINGS and len(begun) == MOST_BEGUN:
        raise NoProgram(line)


def begun_behind(begun, deed):
    """What is begun and has no end yet behind such a line: the word of each, `else` for a choice's second part."""
    if deed in BEGINNINGS:
        return begun + [deed]
    if deed == "else":
        return begun[:-1] + [deed]
    return begun[:-1] if deed == "end" else begun


def row_in(shape, line, deed, filled):
    """The line as a row, also where it begins, parts or ends something; filled has a word for each part of its form."""
    goal = filled["A"] if "=" in filled else ""
    reads = [filled[part] for part in filled if part in NAMES and (part != "A" or goal == "")]
    steps = steps_in(shape, line, deed, filled["PATH"]) if "PATH" in filled else []
    number = int(filled["NUMBER"]) if "NUMBER" in filled else 0
    return Row(line, filled.get("OP", deed), goal, reads, steps, number)


def steps_in(shape, line, deed, path):
    """The steps of the path, which has to lead to what the deed asks for."""
    kind = Nested(shape)
    steps = []
    for word in path.split("."):
        step = step_in(kind, word)
        kind = kind.kind if isinstance(kind, Many) else kind.led(step)
        if step is None or kind is None:
            raise WrongPath(line, path)
        steps.append(step)
    if kind.word() != ("num" if deed in ("look", "store") else "pick"):
        raise WrongPath(line, path)
    return steps


def step_in(kind, word):
    """The step that is meant by a word of a path behind this kind, None where none is by the word alone."""
    step = kind.step_of(word)
    if step is None and is_name(word):
        return ("name", word)
    return step


def names_in(form, words, steps):
    """The names of a line from the left, those of its steps at the path's place among them."""
    names = []
    for part, word in zip(form, words):
        if part in NAMES:
            names.append(word)
        if part == "PATH":
            names.extend([step[1] for step in steps if isinstance(step, tuple)])
    return names


def unlike(names, ahead):
    """The names that don't stand ahead, each once."""
    found = []
    for name in names:
        if name not in ahead and name not in found:
            found.append(name)
    return found


def rows_from(told, first):
    """The rows from that line on up to the else or end that closes them, and the number of the line behind them."""
    rows = []
    at = first
    while at < len(told) and told[at].deed not in ("else", "end"):
        row = whole_row(told, at)
        rows.append(row)
        at = line_behind(row)
    return rows, at


def line_behind(row):
    """The number of the line behind a whole row."""
    return row.line + 1 if isinstance(row, Row) else row.last + 1


def whole_row(told, at):
    """The row that stands at this line, with all that stands within it."""
    row = told[at]
    if row.deed not in BEGINNINGS:
        return row
    rows, behind = rows_from(told, at + 1)
    if row.deed != "if":
        return Loop(at, behind, row.deed, row.reads[0], row.reads[1:], rows)
    if told[behind].deed == "end":
        return Choice(at, behind, None, row.reads, rows, [])
    others, last = rows_from(told, behind + 1)
    return Choice(at, last, behind, row.reads, rows, others)
