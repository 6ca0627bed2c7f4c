"""A store that holds its things in two rooms, while one laying is turned into another one."""

from roomslaid.errors import NoTurn
from roomslaid.layings import Laying
from roomslaid.roomstore import RoomStore
from roomslaid.runs import run
from roomslaid.words import is_count

OLD_SIDE = 0
NEW_SIDE = 1


class Turning(RoomStore):
    """Things of which those below the mark lie in the new room, all others in the old one."""

    def __init__(self, old, new, records):
        need_turn(old, new)
        RoomStore.__init__(self, [old, new], records)
        self.old = old
        self.new = new
        self.mark = 0
        self.moved = []
        self.pace = []
        self.lay_records(records)

    def side_of(self, thing):
        return NEW_SIDE if thing < self.mark else OLD_SIDE

    def shown(self, spots):
        return list(spots)

    def step(self, count):
        """Moves the mark up by so many things; tells how many of them were there, and so copied over."""
        if not is_count(count):
            raise NoTurn(count)
        behind = min(self.mark + count, self.most())
        passed = list(range(self.mark, min(behind, self.many())))
        for thing in passed:
            self.carried(self.unit_spots(thing, OLD_SIDE), self.unit_spots(thing, NEW_SIDE))
        self.mark = behind
        self.moved.extend(passed)
        return len(passed)

    def is_turned(self):
        """Whether the mark has passed all things that there may be."""
        return self.mark == self.most()

    def ahead(self, done):
        if done < len(self.pace):
            self.step(self.pace[done])


def run_turning(program, store, inputs, budget, steps):
    """Runs the program on the Turning, with a step of its own ahead of each row, as long as there are steps."""
    if not isinstance(steps, list) or not all([is_count(step) for step in steps]):
        raise NoTurn(steps)
    store.pace = list(steps)
    try:
        return run(program, store, inputs, budget)
    finally:
        store.pace = []


def need_turn(old, new):
    """Refuses a new laying into which the old one can't be turned."""
    if not isinstance(old, Laying) or not isinstance(new, Laying):
        raise NoTurn(new)
    if old.shapes.text() != new.shapes.text() or old.things != new.things:
        raise NoTurn(new)
