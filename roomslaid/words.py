"""Whole numbers, names, figures, and words kept in cells."""

OWN_WORDS = (
    "shape", "num", "row", "pick", "tag", "room", "things", "part", "tags", "put", "take", "many",
    "look", "which", "store", "choose", "copy", "each", "span", "if", "else", "end", "out",
)
SMALL_LETTERS = "abcdefghijklmnopqrstuvwxyz"
FIGURES = "0123456789"
MOST_LETTERS = 6
MOST_FIGURES = 10


def is_whole(thing):
    """Whether the thing is a whole number: an int that is no truth."""
    return isinstance(thing, int) and not isinstance(thing, bool)


def is_count(thing):
    """Whether the thing is a whole number from 0 on."""
    return is_whole(thing) and thing >= 0


def is_between(thing, low, high):
    """Whether the thing is a whole number from low to high."""
    return is_whole(thing) and low <= thing <= high


def is_name(thing):
    """Whether the thing is a name: one to six small letters, and no own word."""
    return is_text_of(thing, SMALL_LETTERS, MOST_LETTERS) and thing not in OWN_WORDS


def is_text_of(thing, signs, most):
    """Whether the thing is a text of one to so many of these signs."""
    if not isinstance(thing, str) or not 1 <= len(thing) <= most:
        return False
    return all([sign in signs for sign in thing])


def own_words():
    """The words that are no names, a new list each time."""
    return list(OWN_WORDS)


def number_in(text, low, high):
    """The number from low to high that the text writes in figures, or None."""
    if not is_text_of(text, FIGURES, MOST_FIGURES):
        return None
    if text[0] == "0" and len(text) > 1:
        return None
    number = int(text)
    return number if low <= number <= high else None


def bound_of(width):
    """How many words of this width there are: the least number too great for it."""
    return 1 << (8 * width)


def is_word(thing, width):
    """Whether the thing is a word of this width."""
    return is_between(thing, 0, bound_of(width) - 1)


def cells_of(word, width):
    """So many cells of the number, the one of the least worth first; what goes beyond them falls away."""
    cells = []
    rest = word
    for at in range(width):
        cells.append(rest % 256)
        rest = rest // 256
    return cells


def word_of(cells):
    """The whole number that these cells keep, the one of the least worth first."""
    word = 0
    for cell in reversed(cells):
        word = word * 256 + cell
    return word


def is_alike(thing, wanted):
    """Whether the thing equals the wanted one, and is of the same kinds, within it too."""
    if isinstance(wanted, list):
        return isinstance(thing, list) and are_alike(thing, wanted)
    if isinstance(wanted, tuple):
        return isinstance(thing, tuple) and are_alike(thing, wanted)
    # A truth equals a number, but is none.
    if isinstance(thing, bool) != isinstance(wanted, bool):
        return False
    return thing == wanted


def are_alike(things, wanted):
    """Whether there are as many things as wanted, each alike."""
    if len(things) != len(wanted):
        return False
    return all([is_alike(thing, other) for thing, other in zip(things, wanted)])
