"""What several tests need: things of all kinds, and refusals that are looked at."""

from roomslaid.errors import NoRoom, RoomError
from roomslaid.room import Room

ODD = [
    None, True, False, 0, 1, 2, 255, 256, -1, 10 ** 29, -(10 ** 29), "", "a", "0", "1", "00", "shape", "tag", ".",
    "a b", "a\n", [], [0], ["a"], [[]], (), (0,), (0, 0), (0, 0, 8), (0, 0, 8, 0), ("a",), (None,), {}, {"a": 0},
    {0: 1}, {None: []}, [[[[[[[[[[[[]]]]]]]]]]]], Room(1), NoRoom(0),
]


def refusal(case, kind, call, *handed):
    """The refusal of that very class that the call raises; what is handed in stays as it was."""
    before = plain(handed)
    with case.assertRaises(RoomError) as caught:
        call(*handed)
    case.assertEqual(plain(handed), before)
    case.assertIs(caught.exception.__class__, kind)
    return caught.exception


def refused(case, kind, fields, call, *handed):
    """Asserts that the call is refused with that class, its fields being these very things."""
    error = refusal(case, kind, call, *handed)
    case.assertEqual(list(vars(error)), list(fields))
    for name, thing in fields.items():
        case.assertIs(getattr(error, name), thing)


def refused_at(case, kind, fields, call, *handed):
    """Asserts that the call is refused with that class, its fields being equal to these."""
    case.assertEqual(vars(refusal(case, kind, call, *handed)), fields)


def plain(thing):
    """The thing as a text that tells lists, dicts, kinds and numbers apart."""
    return repr(thing)
