"""Stores of things: what their deeds do, tell and refuse, and the looks that they keep."""

from roomslaid.errors import Beyond, NoThings, TooMuch
from roomslaid.records import blank, chosen, copied, is_record, look_at, stored, which_at
from roomslaid.words import is_between


class Store:
    """What the stores have in common; it is not made by itself.

    Each deed refuses its things here, and leaves the rest to a method that
    each store puts otherwise: those from `word_at` on.
    """

    def __init__(self, shapes, most):
        self.shapes = shapes
        self.looks = []
        self.bound = most

    def look(self, thing, steps):
        """The word of the thing to which the steps lead."""
        self.need_thing(thing)
        word = self.word_at(thing, steps)
        self.keep_look("look", thing, steps, word)
        return word

    def store(self, thing, steps, word):
        """Puts the word's rest by its width where the steps lead, and tells that rest."""
        self.need_thing(thing)
        rest = self.word_set(thing, steps, word)
        self.keep_look("store", thing, steps, rest)
        return rest

    def which(self, thing, steps):
        """The number that is chosen in the thing's pick to which the steps lead."""
        self.need_thing(thing)
        number = self.tag_at(thing, steps)
        self.keep_look("which", thing, steps, number)
        return number

    def choose(self, thing, steps, number):
        """Chooses this number in the pick to which the steps lead, its shape being blank then."""
        self.need_thing(thing)
        told = self.tag_set(thing, steps, number)
        self.keep_look("choose", thing, steps, told)
        return told

    def copy(self, thing, other):
        """Makes the thing as the other one is."""
        self.need_thing(thing)
        self.need_thing(other)
        self.copied_over(thing, other)
        self.keep_look("copy", thing, (), other)

    def put(self):
        """Puts a blank thing behind the others, and tells its number."""
        if self.many() == self.most():
            raise TooMuch(-1)
        number = self.blank_put()
        self.keep_look("put", number, (), 0)
        return number

    def take(self, thing):
        """Takes the thing out, the last one coming to its place; tells the number that the last one had."""
        self.need_thing(thing)
        last = self.last_taken(thing)
        self.keep_look("take", thing, (), last)
        return last

    def most(self):
        """How many things there may be."""
        return self.bound

    def need_thing(self, thing):
        """Refuses what is no number of a thing that is there."""
        if not is_between(thing, 0, self.many() - 1):
            raise Beyond(thing)

    def keep_look(self, word, thing, steps, number):
        """Keeps a deed that was done behind the looks."""
        self.looks.append((word, thing, path_of(steps), number))

    def ahead(self, done):
        """Is called ahead of each row of a run, with how many were done so far; here nothing comes of it."""

    def word_at(self, thing, steps):
        """The word where the steps lead."""

    def word_set(self, thing, steps, word):
        """Puts the word's rest where the steps lead, and tells it."""

    def tag_at(self, thing, steps):
        """The number of the pick where the steps lead."""

    def tag_set(self, thing, steps, number):
        """Chooses the number in the pick where the steps lead, and tells it."""

    def copied_over(self, thing, other):
        """Makes the thing as the other one is."""

    def blank_put(self):
        """Puts a blank thing behind the others, and tells its number."""

    def last_taken(self, thing):
        """Brings the last thing to this one's place, and tells the number that it had."""

    def many(self):
        """How many things there are."""

    def records(self):
        """The things as records, new ones each time."""


class Plain(Store):
    """A store that holds its things as records."""

    def __init__(self, shapes, most, records):
        Store.__init__(self, shapes, most)
        need_records(shapes, most, records)
        self.held = [copied(record) for record in records]

    def word_at(self, thing, steps):
        return look_at(self.shapes.main(), self.held[thing], steps)

    def word_set(self, thing, steps, word):
        record = stored(self.shapes.main(), self.held[thing], steps, word)
        self.held[thing] = record
        return look_at(self.shapes.main(), record, steps)

    def tag_at(self, thing, steps):
        return which_at(self.shapes.main(), self.held[thing], steps)

    def tag_set(self, thing, steps, number):
        self.held[thing] = chosen(self.shapes.main(), self.held[thing], steps, number)
        return number

    def copied_over(self, thing, other):
        self.held[thing] = copied(self.held[other])

    def blank_put(self):
        self.held.append(blank(self.shapes.main()))
        return len(self.held) - 1

    def last_taken(self, thing):
        last = self.held.pop()
        if thing < len(self.held):
            self.held[thing] = last
        return len(self.held)

    def many(self):
        return len(self.held)

    def records(self):
        return [copied(record) for record in self.held]


def path_of(steps):
    """The text of the steps, with a point between any two."""
    return ".".join([f"{step}" for step in steps])


def need_records(shapes, most, things):
    """Refuses what is no list of at most so many records of the main shape."""
    if not isinstance(things, list) or len(things) > most:
        raise NoThings(things)
    if not all([is_record(shapes.main(), thing) for thing in things]):
        raise NoThings(things)
