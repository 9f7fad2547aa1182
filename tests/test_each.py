"""What holds of each function of sections 7, 8 and 10: errors in order, lists for tuples, what is told is new."""

from tests.tools import Hostile, Odd, WrapCase, as_lists, as_tuples, empties, odd_things, ring
from underwraps.books import Book
from underwraps.bunches import bunches_of, least_key
from underwraps.errors import (
    BadAsked, BadBook, BadHouse, BadIndex, BadMachine, BadRoot, BadRows, BadSecond, BadStart, BadState, BadStates, BadTies,
)
from underwraps.houses import House
from underwraps.leading import leads_to, pairs_of
from underwraps.logs import played
from underwraps.machines import grown, is_closed, least_machine, machine_lack, machine_wants, machines_met
from underwraps.proofs import is_proof, proof_fault, row_says, told_proof
from underwraps.ranks import asked_rank, machine_ranks, ranks_fault
from underwraps.states import first_states, is_asked, moves_of, roots_of, states_of
from underwraps.strays import strays
from underwraps.ties import ties_closed, ties_thinned

PARAMETERS = {
    states_of: "book", moves_of: "book", roots_of: "book start", first_states: "book start root", is_asked: "book start thing",
    leads_to: "book start ties asked", pairs_of: "book start ties", bunches_of: "book start ties",
    least_key: "book start ties states", ties_closed: "book ties", ties_thinned: "book ties",
    machine_wants: "book start machine", machine_lack: "book start machine", is_closed: "book start thing",
    least_machine: "book start", grown: "book start machine", machines_met: "book machine second",
    strays: "book start ties house", proof_fault: "book start asked state thing", is_proof: "book start asked state thing",
    row_says: "book start rows index", told_proof: "book start asked state", machine_ranks: "book start",
    ranks_fault: "book start thing", asked_rank: "book start asked state",
}
BOOK = Book(["a", "b", "c"], ["x", "y"], [
    ("make", "b"), ("copy", "a", "b"), ("derive", "a", "x", "c"), ("derive", "b", "y", "a"), ("wrap", "b", "c"),
    ("open", "a"), ("unwrap", "a", "b"), ("seal", "b"), ("show", "c"),
])
START = [["a", "b"], [], ["c"]]
HOUSE = played(BOOK, START, [("make", "b"), ("copy", 0, "b"), ("derive", 0, "x", "c"), ("show", 2), ("show", 5)])
ROWS = [("start", 0, "a", "b"), ("let", ("copy", "a", "b")), ("first", 0, 1)]
MACHINE = ([("c", "b"), ("a", "b")], [("known", "known"), ("a", "a"), ("b", "c")])
GOOD = {
    "book": BOOK, "start": START, "root": 0, "asked": (0, ("x", "y")), "state": "b", "ties": [("c", "b"), ("a", "c"), ("a", "b")],
    "states": ["a", "b"], "machine": MACHINE, "second": (MACHINE[0][:1], MACHINE[1][::-1]), "house": HOUSE, "rows": ROWS,
    "index": 1,
}
THINGS = {
    is_asked: (2, ("x",)), is_closed: least_machine(BOOK, START), ranks_fault: machine_ranks(BOOK, START),
    proof_fault: (ROWS, "a", [("over", 1), ("go", "a")]), is_proof: told_proof(BOOK, START, GOOD["asked"], "b"),
}
NO_LISTS = [None, "ab", "", 0, True, {}, {("a", "b")}, {("a", "b"): 0}, Odd(), Hostile(), iter([])]
NO_TIES = [
    None, "ab", ("a",), ("a", "b", "c"), ("a", "a"), ["known", "known"], ("a", "q"), ("q", "a"), ("a", 0), (True, "a"),
    ("a", None), (), {"a": "b"}, {"a", "b"}, ("a", ["b"]), ("a", Hostile()), (Hostile(), "a"), Hostile(), ring(),
    ("c", "b"), ["c", "b"], ("a", ""), ("x", "y"),
]
NO_STATES = ["q", "", "x", "make", "Known", b"a", None, 0, True, 1, Odd(), Hostile(), ["a"], ("known",), {"a": 1}, ring()]


def wrongs():
    """Return, by parameter, (error, what is wrong, what the error holds), the last None for the very object."""
    very = {
        "book": (BadBook, odd_things() + empties() + [[BOOK]]),
        "root": (BadRoot, odd_things()[:3] + [3, -1, True, False, 0.0, "0", "a", "q", "", (0,), [0], Odd(), Hostile(), ring()]),
        "asked": (BadAsked, odd_things() + empties() + [(3, ()), (True, ()), ("a", ()), (0, "x"), (0, ("z",)), (0, ("x", None))]),
        "state": (BadState, NO_STATES),
        "states": (BadStates, NO_LISTS + [[state] for state in NO_STATES] + [("a", "b", state) for state in NO_STATES]),
        "machine": (BadMachine, odd_things() + [(NO_TIES, []), ([], [("a", "q")]), ([("a", "a")], []), ([], [("a", "a")] * 2)]),
        "second": (BadSecond, odd_things() + [(NO_TIES, []), ([], [("a", "q")]), ([("a", "a")], []), ([], [("a", "a")] * 2)]),
        "house": (BadHouse, odd_things() + empties() + [House(BOOK, []), House(Book(["a", "b", "c"], [], []), START), House]),
        "index": (BadIndex, [3, -1, True, False, None, "0", 1.0, [1], Odd(), Hostile()]),
    }
    out = {name: [(error, thing, None) for thing in things] for name, (error, things) in very.items()}
    out["start"] = [(BadStart, thing, 0) for thing in NO_LISTS]
    out["start"] += [(BadStart, [["a"], [], thing, None], 2) for thing in [["b", "a"], ["a", "a"], "a", None, ["q"], Hostile()]]
    out["ties"] = [(BadTies, thing, 0) for thing in NO_LISTS]
    out["ties"] += [(BadTies, [("c", "b"), ["known", "a"], thing, None], 2) for thing in NO_TIES]
    out["rows"] = [(BadRows, thing, 0) for thing in NO_LISTS]
    out["rows"] += [(BadRows, ROWS + [thing, None], 3) for thing in NO_TIES + [("first", 0, 3), ("start", 0, "a", "q")]]
    return out


def arguments(function):
    """Return right arguments of a function, by name."""
    return {name: THINGS[function] if name == "thing" else GOOD[name] for name in PARAMETERS[function].split()}


def held_lists(thing):
    """Return all lists and dicts in a thing."""
    parts = list(thing.values()) if isinstance(thing, dict) else thing if isinstance(thing, (list, tuple)) else []
    inner = [found for part in parts for found in held_lists(part)]
    return ([] if isinstance(thing, (tuple, int, str, type(None))) else [thing]) + inner


def copied(thing):
    """Return what is equal to a thing, and stays so."""
    if isinstance(thing, dict):
        return {key: copied(thing[key]) for key in thing}
    if isinstance(thing, House):
        return thing.copy()
    return type(thing)([copied(part) for part in thing]) if isinstance(thing, (list, tuple)) else thing


class TestEach(WrapCase):
    def test_errors(self):
        wrong = wrongs()
        for function, names in PARAMETERS.items():
            names = names.split()
            for at, name in enumerate(names):
                for error, thing, index in wrong.get(name, []):
                    named = arguments(function)
                    named[name] = thing
                    held = thing if index is None else index
                    self.raises(error, held, function, *list(named.values()))
                    # The first parameter that is wrong tells, whatever stands behind it.
                    for later in names[at + 1:]:
                        named[later] = Hostile()
                    self.raises(error, held, function, **named)

    def test_lists_for_tuples(self):
        for function in PARAMETERS:
            named = arguments(function)
            told = function(**named)
            for other in (as_lists, as_tuples):
                changed = {name: other(thing) for name, thing in named.items()}
                self.assertEqual(function(**changed), told)
                self.assertEqual(function(*list(changed.values())), told)
                self.assertEqual(repr(function(**changed)), repr(told))

    def test_tuples_are_told(self):
        for function in PARAMETERS:
            told = function(**arguments(function))
            for found in held_lists(told):
                self.assertIn(type(found), (list, dict))
            if function in (moves_of, pairs_of, ties_closed, ties_thinned):
                self.assertTrue(all([type(part) is tuple for part in told]))
        for told in (machine_wants, least_machine, grown, machines_met, machine_ranks, told_proof, strays):
            self.assertIs(type(told(**arguments(told))), tuple)
        self.assertEqual(repr(leads_to(BOOK, START, [], ("b", ["y"]))), "['a']")
        self.assertEqual(repr(least_key(BOOK, START, [], ["c"])), "(2, ())")

    def test_told_new(self):
        for function in PARAMETERS:
            named = arguments(function)
            told = function(**named)
            kept = copied(told)
            lists = held_lists(told)
            self.assertEqual(len({id(found) for found in lists}), len(lists))
            passed = {id(found) for thing in named.values() if not isinstance(thing, (Book, House)) for found in held_lists(thing)}
            self.assertFalse(passed & {id(found) for found in lists})
            for found in lists:
                found.clear()
            self.assertEqual(function(**named), kept)

    def test_what_is_passed_stays(self):
        for function in PARAMETERS:
            for shape in (copied, as_lists):
                named = {name: shape(thing) for name, thing in arguments(function).items()}
                before = {name: copied(thing) for name, thing in named.items()}
                function(**named)
                self.assertEqual(named, before)
                self.assertEqual(repr(named["book"].all_permits()), repr(before["book"].all_permits()))

    def test_any_object(self):
        for function in THINGS:
            for thing in odd_things() + empties() + NO_LISTS:
                named = arguments(function)
                named["thing"] = thing
                told = function(**named)
                if function in (proof_fault, ranks_fault):
                    self.assertEqual(told, ("form", 0))
                else:
                    self.says(False, told)
