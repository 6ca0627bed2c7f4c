"""Runs of programs on stores."""

from roomslaid.errors import Beyond, NoBudget, NoInput, Other, TooMuch
from roomslaid.program import SIGNS, WORD_CELLS, Choice, Loop
from roomslaid.words import bound_of, is_between, is_word

MOST_BUDGET = 5000


class Run:
    """What is told of a run."""

    def __init__(self, outs, fault, done, lines):
        self.outs = outs
        self.fault = fault
        self.done = done
        self.lines = lines


class Going:
    """A run while it goes: the words of its names, and what comes of it so far."""

    def __init__(self, stock, words, budget):
        self.stock = stock
        self.words = words
        self.budget = budget
        self.outs = []
        self.fault = None
        self.done = 0
        self.lines = []

    def do_rows(self, rows):
        """Does the rows one behind the other; behind a fault nothing is done."""
        for row in rows:
            if self.fault is None:
                self.do_row(row)

    def do_row(self, row):
        """Does the row, where the budget lets it."""
        if isinstance(row, Loop):
            self.do_loop(row)
        elif self.is_let(row.line):
            if isinstance(row, Choice):
                self.do_rows(row.rows if self.words[row.reads[0]] else row.others)
            else:
                self.do_deed(row)

    def is_let(self, line):
        """Whether the budget lets one more row be done, which is counted then; else there is a fault."""
        if self.done == self.budget:
            self.fault = ("budget", line)
            return False
        self.stock.ahead(self.done)
        self.done += 1
        return True

    def do_loop(self, loop):
        """Does the rows of the loop as often as it goes on."""
        first, behind = 0, None
        if loop.deed == "span":
            # These are read once: the rows within may put something else into them.
            first, behind = [self.words[name] for name in loop.reads]
        self.words[loop.goal] = first
        while self.goes_on(loop, behind):
            self.do_rows(loop.rows)
            self.words[loop.goal] = rest(self.words[loop.goal] + 1)

    def goes_on(self, loop, behind):
        """Whether the loop goes on: up to the number behind its last one, without one over all things."""
        if self.fault is not None or not self.is_let(loop.line):
            return False
        return self.words[loop.goal] < (self.stock.many() if behind is None else behind)

    def do_deed(self, row):
        """Does what a Row tells; what the store refuses is a fault."""
        words = [self.words[name] for name in row.reads]
        try:
            told = self.told_by(row, words)
        except Beyond:
            self.fault = ("beyond", row.line)
        except Other:
            self.fault = ("other", row.line)
        except TooMuch:
            self.fault = ("full", row.line)
        else:
            if row.goal:
                self.words[row.goal] = told

    def told_by(self, row, words):
        """The word that comes of the row, for its goal where it has one."""
        if row.deed == "number":
            return row.number
        if row.deed == "name":
            return words[0]
        if row.deed in SIGNS:
            return reckoned(row.deed, words[0], words[1])
        if row.deed == "many":
            return self.stock.many()
        if row.deed == "out":
            self.outs.append(words[0])
            return words[0]
        told = asked(self.stock, row.deed, words, self.steps_now(row))
        self.lines.append(row.line)
        return told

    def steps_now(self, row):
        """The steps of the row, those by names being the numbers that these have."""
        return tuple([self.words[step[1]] if isinstance(step, tuple) else step for step in row.steps])


def run(program, store, inputs, budget):
    """Runs the program on the store."""
    names = program.names()
    need_inputs(names, inputs)
    if not is_between(budget, 0, MOST_BUDGET):
        raise NoBudget(budget)
    going = Going(store, {name: inputs.get(name, 0) for name in names}, budget)
    going.do_rows(program.rows)
    return Run(going.outs, going.fault, going.done, going.lines)


def need_inputs(names, inputs):
    """Refuses the first input that is no word of a name; keys that are no texts are looked at ahead of texts."""
    texts = [key for key in inputs if isinstance(key, str)]
    others = [key for key in inputs if not isinstance(key, str)]
    for key in others + sorted(texts):
        if key not in names or not is_word(inputs[key], WORD_CELLS):
            raise NoInput(key)


def rest(number):
    """The rest of the number that a name's word can be."""
    return number % bound_of(WORD_CELLS)


def reckoned(sign, one, other):
    """What the sign makes of two words."""
    if sign == "+":
        return rest(one + other)
    if sign == "-":
        return rest(one - other)
    if sign == "*":
        return rest(one * other)
    if sign == "<":
        return 1 if one < other else 0
    if sign == "=":
        return 1 if one == other else 0
    return one & other


def asked(store, deed, words, steps):
    """What the store tells when this deed is asked of it."""
    if deed == "look":
        return store.look(words[0], steps)
    if deed == "store":
        return store.store(words[0], steps, words[1])
    if deed == "which":
        return store.which(words[0], steps)
    if deed == "choose":
        return store.choose(words[0], steps, words[1])
    if deed == "copy":
        return store.copy(words[0], words[1])
    if deed == "put":
        return store.put()
    return store.take(words[0])
