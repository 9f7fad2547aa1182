"""What several tests need: counted choices, odd objects, tuples turned to lists, errors with what they hold."""

import time
import unittest

from underwraps.errors import WrapError


class Dice:
    """Choices that come of a fixed count: always the same ones."""

    def __init__(self, count):
        self.state = count * 2654435761 + 12345

    def number(self, many):
        """Return a number from 0 on, below many."""
        self.state = (self.state * 6364136223846793005 + 1442695040888963407) % 2 ** 64
        return (self.state >> 33) % many

    def one(self, things):
        return things[self.number(len(things))]

    def some(self, things, many):
        return [self.one(things) for _ in range(many)]

    def part(self, things):
        return [thing for thing in things if self.number(2)]

    def mixed(self, things):
        left, out = list(things), []
        while left:
            out.append(left.pop(self.number(len(left))))
        return out


class Odd:
    """An object of another class, that can do nothing."""


class Hostile:
    """An object that can be asked nothing."""

    __hash__ = None

    def refuse(self, *args):
        raise RuntimeError("asked")

    __eq__ = __ne__ = __lt__ = __le__ = __gt__ = __ge__ = refuse
    __len__ = __iter__ = __getitem__ = __contains__ = __bool__ = refuse
    __int__ = __index__ = __str__ = __repr__ = refuse


def ring():
    """Return a list that holds itself."""
    found = []
    found.append(found)
    return found


def endless():
    """Return what looks like a thing, and never ends."""
    found = ["under", (("own", 0), ()), None]
    found[2] = found
    return found


def odd_things():
    """Return objects that are nothing that the document names, but some of them names and numbers."""
    return [
        None, True, False, 0, 1, -1, 1.5, "", "a", "under", "make", b"make", object(), Odd, Odd(), Hostile(),
        {}, {"a": 1}, {1: "a"}, set(), {"a"}, frozenset("a"), range(3), iter([]), len, ring(), endless(),
        [[[]]], [None], [Hostile()], [Hostile(), Hostile()], [Hostile()] * 3,
        ["make"], ["make", []], ["make", Hostile()], ["make", None], [["make"], "a"], ["under"],
        ["under", Hostile(), Hostile()], ["under", (("own", 0), ()), Hostile()], [("own", 0)],
        [("own", 0), Hostile()], [("own", Hostile()), ()], [(Hostile(), 0), ()], [("own", 0), [Hostile()]],
        [("own", True), ()], [("own", -1), ()], [("own", 1.0), ()], [("own", "0"), ()], [("owl", 0), ()],
        [("own", 0), "x"], [("own", 0), {}], [("own", 0), (), ()], [("own", 0, 0), ()], [1, 2], [[1, 2], [3]],
        ["show", Hostile()], ["show", True], ["show", -1], ["show", 0.0], ["bring", "a", Hostile()],
        ["open", 0, Hostile()], ["had", Hostile()], ["had", True], ["close", 0, Hostile()], ["next", 0, Hostile()],
    ]


def empties():
    """Return lists that have nothing in them, or nothing but such."""
    return [[], (), [[]], ((),), [(), []]]


def as_lists(thing):
    """Return a thing with each tuple in it a list."""
    if isinstance(thing, (list, tuple)):
        return [as_lists(part) for part in thing]
    if isinstance(thing, dict):
        return {key: as_lists(part) for key, part in thing.items()}
    return thing


def as_tuples(thing):
    """Return a thing with each list in it a tuple."""
    if isinstance(thing, (list, tuple)):
        return tuple([as_tuples(part) for part in thing])
    if isinstance(thing, dict):
        return {key: as_tuples(part) for key, part in thing.items()}
    return thing


class WrapCase(unittest.TestCase):
    """Tests of what is raised, and of how long all takes."""

    def raises(self, error, held, call, *args, **named):
        """Look that a call raises an error that holds just this under its parameter's name."""
        with self.assertRaises(error) as caught:
            call(*args, **named)
        self.assertIs(type(caught.exception), error)
        self.assertIs(error.__bases__[0], WrapError)
        values = list(vars(caught.exception).values())
        self.assertEqual(len(values), 1)
        if held is None or isinstance(held, (bool, int)):
            self.assertIs(type(values[0]), type(held))
            self.assertEqual(values[0], held)
        else:
            self.assertIs(values[0], held)

    def raises_equal(self, error, held, call, *args):
        """Look likewise for what is equal, not the very object."""
        with self.assertRaises(error) as caught:
            call(*args)
        self.assertEqual(list(vars(caught.exception).values()), [held])

    def says(self, wanted, told):
        """Look that a bool is told, this one."""
        self.assertIs(told, wanted)

    def in_seconds(self, call, *args):
        """Return what a call tells; look that it takes few seconds."""
        begun = time.perf_counter()
        told = call(*args)
        self.assertLess(time.perf_counter() - begun, 10)
        return told
