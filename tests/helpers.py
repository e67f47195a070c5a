"""What the tests share."""

import copy
import enum
import unittest


class Eager:
    """Equal to everything, and as long as one likes: no value of the document."""

    def __eq__(self, other):
        return True

    def __len__(self):
        return 5

    def __getitem__(self, at):
        return 0


class Touchy:
    """Cannot be compared, hashed or shown."""

    def __eq__(self, other):
        raise RuntimeError("compared")

    def __hash__(self):
        raise RuntimeError("hashed")

    def __repr__(self):
        raise RuntimeError("shown")


class Few(enum.IntEnum):
    """Integers of a class of their own: they may be passed, and are never returned."""

    NONE = 0
    ONE = 1
    TWO = 2


# Values of all kinds; none of them is a value that the document tells, but for the integers.
OTHERS = [
    None, True, False, -1, 0, 1, 7, 10 ** 29, -(10 ** 29), "", "a", "city", "line", "trip", "block", "duty", "meet",
    b"", b"line", [], [1], [True], (), (-7,), (True,), (False, 0), ((),), ((-7,),), [[0]], {}, {0: 0}, {"city": 1}, set(),
    {1}, frozenset(), range(3), object(), object, len, lambda: 0, NotImplemented, Ellipsis, bytearray(b"09:05"),
    Eager(), Touchy(), (Touchy(),), ("line", Touchy(), Touchy(), Touchy(), Touchy()),
    (Touchy(), (0, 1), (5,), (), 3), (Eager(), Eager(), Eager(), Eager(), Eager()),
    ("city", Touchy(), Touchy(), Touchy(), Touchy()), ("block", Touchy(), Touchy(), Touchy()),
    ("duty", Touchy(), Touchy()), ("trip", Touchy(), Touchy()), ("meet", 0, 0, 1, 0, 3, Touchy()),
]

CITY = ("city", (1, 1, 2), (2, 1, 3), ((0, 4, 9), (4, 0, 6), (9, 6, 0)), ((0, 3, 7), (3, 0, 5), (7, 5, 0)))

# A city of four stops in which changes, walks and drives are all unlike, with lines and trips for blocks and duties.
TOWN = (
    "city", (1, 2, 3, 4), (2, 3, 1, 9),
    ((0, 15, 27, 30), (15, 0, 18, 21), (27, 18, 0, 10), (30, 21, 10, 0)),
    ((0, 5, 9, 12), (5, 0, 6, 10), (9, 6, 0, 7), (12, 10, 7, 0)),
)
TOWN_LINES = (
    ("line", (0, 1, 2), (6, 7), (2,), 3), ("line", (2, 3, 1, 0), (8, 11, 5), (0, 4), 5),
    ("line", (1, 3), (10,), (), 1), ("line", (2, 0), (9,), (), 2),
)
TOWN_TRIPS = (
    ("trip", 0, (10, 20)), ("trip", 1, (40, 50, 66)), ("trip", 0, (30, 38)), ("trip", 2, (60,)), ("trip", 3, (100,)),
    ("trip", 1, (90, 98, 113)),
)

NO_INTEGERS = [value for value in OTHERS if type(value) is not int]


def even_table(many, way):
    """Of so many places, the same way between each two unlike ones: closed."""
    return tuple(tuple(0 if one == other else way for other in range(many)) for one in range(many))


def even_city(many):
    return ("city", (1,) * many, (0,) * many, even_table(many, 5), even_table(many, 4))


def put(value, path, new):
    """The tuple (or list) with another part at the path."""
    if not path:
        return new
    at = path[0]
    parts = list(value)
    parts[at] = put(parts[at], path[1:], new)
    return type(value)(parts)


def part(value, path):
    for at in path:
        value = value[at]
    return value


def listed(value):
    """The value with lists in the place of all tuples."""
    return [listed(inner) for inner in value] if isinstance(value, tuple) else value


def paths(value, start=()):
    """All paths to parts of a value, that to itself first."""
    found = [start]
    if isinstance(value, (list, tuple)):
        for at, inner in enumerate(value):
            found.extend(paths(inner, start + (at,)))
    return found


def is_plain(value):
    """Whether a value, and all inside it, is of Python's own kinds."""
    if type(value) in (list, tuple):
        return all(is_plain(inner) for inner in value)
    return value is None or type(value) in (int, str, bool)


class Case(unittest.TestCase):
    def assert_error(self, kind, values, call, *arguments, **named):
        """The call raises just this error with these values of its attributes; nothing passed is changed."""
        before = copy.deepcopy([value for value in arguments if is_plain(value)])
        with self.assertRaises(kind) as held:
            call(*arguments, **named)
        self.assertIs(type(held.exception), kind)
        self.assertEqual(before, [value for value in arguments if is_plain(value)])
        names = {"TooMany": ("what", "limit")}.get(kind.__name__, ("value",))
        for name, value in zip(names, values, strict=True):
            told = getattr(held.exception, name)
            self.assertIs(type(told), type(value))
            self.assertTrue(told is value or told == value)

    def assert_told(self, expected, call, *arguments, **named):
        """The call returns just this, plain, twice, and changes nothing that it is passed."""
        before = copy.deepcopy((arguments, named))
        found = call(*arguments, **named)
        self.assert_same(expected, found)
        self.assertEqual(before, (arguments, named))
        again = call(*arguments, **named)
        self.assert_same(expected, again)
        if isinstance(found, list):
            self.assertIsNot(found, again)

    def assert_same(self, expected, found):
        self.assertTrue(is_plain(found), f"not plain: {found!r}")
        self.assertEqual(expected, found)
        self.assertEqual(repr(expected), repr(found))

    def assert_by_name(self, call, **named):
        """By position, in the sequence in which the parameters are given here, and by name it is the same."""
        expected = call(*named.values())
        self.assert_same(expected, call(**named))
        for count in range(len(named)):
            values, names = list(named.values()), list(named)
            self.assert_same(expected, call(*values[:count], **{name: named[name] for name in names[count:]}))

    def assert_yes(self, call, *arguments):
        self.assertIs(call(*arguments), True, arguments)

    def assert_no(self, call, *arguments):
        self.assertIs(call(*arguments), False)
