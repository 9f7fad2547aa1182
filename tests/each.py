"""What holds of each function, whatever it is: errors in order, lists for tuples, what is told is new."""

from tests.tools import Hostile, Odd, as_lists, as_tuples, empties, odd_things, ring
from underwraps.books import Book
from underwraps.errors import BadAsked, BadBook, BadRoot, BadStart, BadState
from underwraps.houses import House
from underwraps.several import Houses

BOOK = Book(["a", "b", "c"], ["x", "y"], [
    ("make", "b"), ("copy", "a", "b"), ("derive", "a", "x", "c"), ("derive", "b", "y", "a"), ("wrap", "b", "c"),
    ("open", "a"), ("unwrap", "a", "b"), ("seal", "b"), ("show", "c"),
])
START = [["a", "b"], [], ["c"]]
NO_LISTS = [None, "ab", "", 0, True, {}, {("a", "b")}, {("a", "b"): 0}, object(), Hostile(), iter([])]


NO_TIES = [
    None, "ab", ("a",), ("a", "b", "c"), ("a", "a"), ["known", "known"], ("a", "q"), ("q", "a"), ("a", 0), (True, "a"),
    ("a", None), (), {"a": "b"}, {"a", "b"}, ("a", ["b"]), ("a", Hostile()), (Hostile(), "a"), Hostile(), ring(),
    ("c", "b"), ["c", "b"], ("a", ""), ("x", "y"),
]
NO_STATES = ["q", "", "x", "make", "Known", b"a", None, 0, True, 1, Odd(), Hostile(), ["a"], ("known",), {"a": 1}, ring()]
NO_ASKED = odd_things() + empties() + [(3, ()), (True, ()), ("a", ()), (0, "x"), (0, ("z",)), (0, ("x", None))]
NO_NUMBERS = [-1, True, False, None, "0", 1.0, [1], Odd(), Hostile(), ring()]


def listed(error, good, wrong):
    """Return what may be wrong in a list of a parameter: no list at all, or one wrong thing behind good ones."""
    return [(error, thing, 0) for thing in NO_LISTS] + [(error, good + [thing, None], len(good)) for thing in wrong]


def very(error, things):
    """Return what may be wrong where the error holds the very object."""
    return [(error, thing, None) for thing in things]


def wrong_by_name():
    """Return what may be wrong of the parameters of many functions, with BOOK and START."""
    return {
        "book": very(BadBook, odd_things() + empties() + [[BOOK]]),
        "start": listed(BadStart, [["a"], []], [["b", "a"], ["a", "a"], "a", None, ["q"], Hostile()]),
        "root": very(BadRoot, odd_things()[:3] + [3, 0.0, "0", "a", "q", "", (0,), [0], Odd(), Hostile(), ring(), -1]),
        "asked": very(BadAsked, NO_ASKED),
        "state": very(BadState, NO_STATES),
    }


def held_lists(thing):
    """Return all lists and dicts in a thing."""
    parts = list(thing.values()) if isinstance(thing, dict) else thing if isinstance(thing, (list, tuple)) else []
    inner = [found for part in parts for found in held_lists(part)]
    return ([] if isinstance(thing, (tuple, int, str, type(None), Book, House, Houses)) else [thing]) + inner


def shown(thing):
    """Return what tells, by its repr, of which kinds a thing and all in it are, books by what they tell."""
    if isinstance(thing, Book):
        return ("Book", thing.all_roles(), thing.all_labels(), thing.all_permits())
    if isinstance(thing, dict):
        return {key: shown(part) for key, part in thing.items()}
    return type(thing)([shown(part) for part in thing]) if isinstance(thing, (list, tuple)) else thing


def copied(thing):
    """Return what is equal to a thing, and stays so."""
    if isinstance(thing, dict):
        return {key: copied(thing[key]) for key in thing}
    if isinstance(thing, House):
        return thing.copy()
    return type(thing)([copied(part) for part in thing]) if isinstance(thing, (list, tuple)) else thing


class Each:
    """Tests of all functions of PARAMETERS; to stand ahead of WrapCase among the bases of a class."""

    # By function: the names of its parameters, in order.
    PARAMETERS = {}
    # By name: what is right for a parameter of this name; by function: what is right for some of its own.
    GOOD = {}
    OF = {}
    # By function: what it tells of an object that is nothing; False for the others.
    NOTHING = {}
    # By function: what it tells of an empty list, if that is something.
    EMPTY = {}

    def wrongs(self):
        """Return, by parameter, (error, what is wrong, what the error holds), the last None for the very object."""
        return wrong_by_name()

    def wrong_for(self, function, name):
        """Return what may be wrong of a function's parameter."""
        return self.wrongs().get((function, name), self.wrongs().get(name, []))

    def arguments(self, function):
        """Return right arguments of a function, by name."""
        own = self.OF.get(function, {})
        return {name: own[name] if name in own else self.GOOD[name] for name in self.PARAMETERS[function].split()}

    def test_errors(self):
        for function, names in self.PARAMETERS.items():
            names = names.split()
            for at, name in enumerate(names):
                if name == "thing":
                    continue
                wrong = self.wrong_for(function, name)
                self.assertTrue(wrong, (function, name))
                for error, thing, index in wrong:
                    named = self.arguments(function)
                    named[name] = thing
                    held = thing if index is None else index
                    self.raises(error, held, function, *list(named.values()))
                    # The first parameter that is wrong tells, whatever stands behind it.
                    for later in names[at + 1:]:
                        named[later] = Hostile()
                    self.raises(error, held, function, **named)

    def test_lists_for_tuples(self):
        for function in self.PARAMETERS:
            named = self.arguments(function)
            told = function(**named)
            for other in (as_lists, as_tuples):
                changed = {name: other(thing) for name, thing in named.items()}
                self.assertEqual(function(**changed), told)
                self.assertEqual(function(*list(changed.values())), told)
                if not isinstance(told, Houses):
                    self.assertEqual(repr(shown(function(**changed))), repr(shown(told)))

    def test_told_new(self):
        for function in self.PARAMETERS:
            named = self.arguments(function)
            told = function(**named)
            kept = copied(told)
            lists = held_lists(told)
            self.assertEqual(len({id(found) for found in lists}), len(lists))
            given = [thing for thing in named.values() if not isinstance(thing, (Book, House))]
            passed = {id(found) for thing in given for found in held_lists(thing)}
            self.assertFalse(passed & {id(found) for found in lists})
            for found in lists:
                self.assertIn(type(found), (list, dict))
                found.clear()
            self.assertEqual(function(**named), kept)

    def test_what_is_passed_stays(self):
        for function in self.PARAMETERS:
            for shape in (copied, as_lists):
                named = {name: shape(thing) for name, thing in self.arguments(function).items()}
                before = {name: copied(thing) for name, thing in named.items()}
                function(**named)
                self.assertEqual(named, before)
                if "book" in named:
                    self.assertEqual(repr(named["book"].all_permits()), repr(before["book"].all_permits()))

    def test_any_object(self):
        for function in self.PARAMETERS:
            if "thing" not in self.PARAMETERS[function].split():
                continue
            for thing in odd_things() + empties() + NO_LISTS:
                named = self.arguments(function)
                named["thing"] = thing
                told = function(**named)
                wanted = self.NOTHING.get(function, False)
                if isinstance(thing, (list, tuple)) and len(thing) == 0:
                    wanted = self.EMPTY.get(function, wanted)
                self.assertEqual(told, wanted)
                self.assertIs(type(told), type(wanted))
