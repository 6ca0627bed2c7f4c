"""A store of lines that keeps those touched last, and what it fetches."""

from roomslaid.errors import NoKeep, NoLine
from roomslaid.words import is_alike, is_between, is_count

MOST_KEPT = 32


class Kept:
    """A store of at most so many lines; it has none at first."""

    def __init__(self, most):
        need_keep(most)
        self.bound = most
        self.held = []

    def touch(self, line):
        """Touches the line; tells whether it is fetched, and the line that goes out for it, or None."""
        need_line(line)
        fetched = line not in self.held
        if not fetched:
            self.held.remove(line)
        self.held.insert(0, line)
        out = self.held.pop() if len(self.held) > self.bound else None
        return (fetched, out)

    def lines_kept(self):
        """The lines that it has, the one touched last first, a new list each time."""
        return list(self.held)


def need_keep(most):
    """Refuses what is no number of lines to keep."""
    if not is_between(most, 1, MOST_KEPT):
        raise NoKeep(most)


def need_line(line):
    """Refuses what is no number of a line."""
    if not is_count(line):
        raise NoLine(line)


def need_lines(lines):
    """Refuses the first thing in the list that is no number of a line."""
    for line in lines:
        need_line(line)


def fetches(lines, most):
    """What a store of so many lines does when these are touched: of each touch a tuple (line, fetched, out)."""
    need_lines(lines)
    kept = Kept(most)
    return [(line,) + kept.touch(line) for line in lines]


def how_many(lines, most):
    """How many touches a store of so many lines fetches."""
    return len([line for line, fetched, out in fetches(lines, most) if fetched])


def distances(lines):
    """Of each touch how many unlike lines were touched since the last one of its line, which counts too; else None."""
    need_lines(lines)
    found = []
    last = {}
    # The numbers of the touches that are the last ones of their lines so far, rising.
    latest = []
    for number, line in enumerate(lines):
        if line in last:
            at = place_in(latest, last[line])
            found.append(len(latest) - at)
            del latest[at]
        else:
            found.append(None)
        last[line] = number
        latest.append(number)
    return found


def place_in(numbers, number):
    """The place of the number in the list, which rises."""
    low, high = 0, len(numbers) - 1
    while low < high:
        middle = (low + high) // 2
        if numbers[middle] < number:
            low = middle + 1
        else:
            high = middle
    return low


def counts(lines, most):
    """How many touches are fetched by a store that keeps 1 line, 2 lines, and so on up to most."""
    found = distances(lines)
    need_keep(most)
    return [len([far for far in found if far is None or far > keep]) for keep in range(1, most + 1)]


def is_fetches(lines, most, thing):
    """Whether the thing is the list of fetches of these lines and most."""
    return is_alike(thing, fetches(lines, most))
