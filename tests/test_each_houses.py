"""What holds of each function of sections 13 to 16: errors in order, lists for tuples, what is told is new."""

from tests.each import BOOK, NO_ASKED, NO_LISTS, NO_NUMBERS, NO_STATES, START, Each, listed, very, wrong_by_name
from tests.tools import Hostile, Odd, WrapCase, empties, odd_things
from underwraps.books import Book
from underwraps.errors import BadLog, BadStart, BadStates
from underwraps.groups import group_fault, group_table, groups, keeps_apart
from underwraps.joining import joined, joined_log, parted_log
from underwraps.levels import is_bar, is_levels, least_levels, shortest_bar
from underwraps.lots import (
    guards, idle_permits, is_idle, is_keeping_lot, is_kept, is_telling_lot, keeping_lots, least_meeting, lots_fault,
    telling_lots, thinned_book,
)
from underwraps.refusals import (
    BadBooks, BadHeld, BadHousesLog, BadLots, BadPermit, BadRole, BadSecrets, BadSome, BadStarts, NoHouse,
)
from underwraps.several import Houses, houses_fault
from underwraps.sharing import apart, sharings
from underwraps.tiers import finest_tiering, is_tiering, safe_roles, tiers_fault
from underwraps.togethers import together, wrapping

SECRETS = [("b", ("y",)), (0, ()), ("b", ("y", "x"))]
WRAPS = Book(["a", "b", "c"], ["x"], [("wrap", "a", "b"), ("derive", "b", "x", "b"), ("make", "c")])


class TestBooks(Each, WrapCase):
    PARAMETERS = {
        groups: "book start root", group_table: "book start", group_fault: "book start thing", keeps_apart: "book start root states thing",
        together: "book start root states", wrapping: "book start role", tiers_fault: "book start thing", is_tiering: "book start thing",
        finest_tiering: "book start", safe_roles: "book start", is_levels: "book start thing", least_levels: "book start",
        is_bar: "book start thing", shortest_bar: "book start", is_idle: "book start permit", idle_permits: "book start",
        thinned_book: "book start", is_kept: "book start secrets", telling_lots: "book start secrets", keeping_lots: "book start secrets",
        is_telling_lot: "book start secrets thing", is_keeping_lot: "book start secrets thing", least_meeting: "book lots",
        lots_fault: "book start secrets thing", guards: "book start secrets",
    }
    GOOD = {
        "book": BOOK, "start": START, "root": 0, "states": ["b", "a"], "role": "c", "permit": ("seal", "b"), "secrets": SECRETS,
        "lots": [[("make", "b")], [("copy", "a", "b"), ("make", "b")], [("open", "a"), ("seal", "b")]],
    }
    OF = {
        group_fault: {"thing": group_table(BOOK, START)}, keeps_apart: {"thing": group_table(BOOK, START), "states": ["a", "known"]},
        tiers_fault: {"thing": finest_tiering(BOOK, START)}, is_tiering: {"thing": finest_tiering(BOOK, START)},
        is_levels: {"book": WRAPS, "start": [["a"], ["b"]], "thing": {"known": 0, "c": 0, "a": 1, "b": 0}},
        least_levels: {"book": WRAPS, "start": [["a"], ["b"]]}, is_bar: {"thing": shortest_bar(BOOK, START)},
        is_telling_lot: {"thing": telling_lots(BOOK, START, SECRETS)[0]}, is_keeping_lot: {"thing": keeping_lots(BOOK, START, SECRETS)[-1]},
        lots_fault: {"thing": (telling_lots(BOOK, START, SECRETS), keeping_lots(BOOK, START, SECRETS))},
    }
    NOTHING = {group_fault: ("form", 0), tiers_fault: ("form", 0), lots_fault: ("form", 0)}

    def wrongs(self):
        found = wrong_by_name()
        less = Book(["a", "b"], ["x"], [])
        starts = listed(BadStart, [["a"], ["b"]], [["b", "a"], ["a", "a"], "a", None, ["q"], Hostile()])
        secrets = [thing for thing in NO_ASKED] + [("known", ()), ("known", ("x",)), ["known", []]]
        lots = [thing for thing in odd_things() if not isinstance(thing, (list, tuple)) or len(thing) > 0]
        return found | {
            (is_levels, "start"): starts, (least_levels, "start"): starts,
            "states": very(BadStates, NO_LISTS + empties() + [
                ["a", "a"], ["known", "known"], ("a", "b", "a")] + [["a", state] for state in NO_STATES]),
            "role": very(BadRole, NO_STATES + ["known", "", ("c",), Odd(), less]),
            "permit": very(BadPermit, odd_things() + empties() + [("make", "a"), ("seal", "b", "b"), ["seal"], ("seal", Hostile()), "seal"]),
            "secrets": listed(BadSecrets, [(0, ()), ("b", ["x"])], secrets),
            "lots": listed(BadLots, [[], [("make", "b")]], lots + [[("make", "a")], [("make", "b")] * 2, [("seal", "b"), ("make", "b")]]),
        }

    def test_any_object(self):
        for function in self.PARAMETERS:
            if "thing" in self.PARAMETERS[function].split():
                for thing in odd_things() + empties() + NO_LISTS:
                    named = self.arguments(function)
                    named["thing"] = thing
                    told = function(**named)
                    if function is lots_fault and isinstance(thing, (list, tuple)) and told != ("form", 0):
                        self.assertIn(told, [("telling", 0), ("lacks", [])])
                    else:
                        self.assertEqual(told, self.NOTHING.get(function, False))

    def test_tuples_are_told(self):
        told = group_table(BOOK, START)
        self.assertEqual((type(told), type(told[0][0]), type(told[1][0][0])), (tuple, tuple, list))
        self.assertTrue(all([type(step) is tuple and type(step[0]) is tuple for step in shortest_bar(BOOK, START)]))
        for function in (telling_lots, keeping_lots):
            self.assertTrue(all([type(lot) is list and type(lot[0]) is tuple for lot in function(BOOK, START, SECRETS)]))
        self.assertEqual(repr(least_meeting(BOOK, [[["make", "b"]]])), "[[('make', 'b')]]")
        self.assertEqual(repr(finest_tiering(Book(["a"], [], []), [])), "({'a': 1, 'known': 0}, [0, None])")
        self.assertEqual(repr(together(BOOK, START, 2, ["c"])), "([], (('given', 2), ()))")


BOOKS = [
    Book(["a", "b"], ["x"], [("make", "a"), ("wrap", "a", "b"), ("derive", "b", "x", "a")]), Book(["a", "o"], ["x"], [("open", "a"), ("show", "o")]),
    Book([], ["x"], []),
]
STARTS = [[["a", "b"], ["b"], []], [["a"], ["o"], []], [[], [], []]]
LOG = [(0, ("make", "a")), (0, ("wrap", 0, 1)), (1, ("open", 0, ("under", (("given", 0), ()), (("given", 0), ()))))]


class TestHouses(Each, WrapCase):
    PARAMETERS = {
        houses_fault: "books starts thing", joined: "books starts", joined_log: "books starts log", parted_log: "books starts log",
        apart: "books starts some", sharings: "books starts house asked", Houses: "books starts",
    }
    GOOD = {"books": BOOKS, "starts": STARTS, "log": LOG, "house": 0, "asked": (1, ()), "some": [0, 1]}
    OF = {houses_fault: {"thing": LOG}, parted_log: {"log": joined_log(BOOKS, STARTS, LOG)}}

    def wrongs(self):
        books = odd_things() + empties() + [Book(["a"], [], []), Book(["a"], ["y"], []), Book(["abcdefgh"], ["x"], [])]
        starts = odd_things() + empties() + [[["a"], ["b"]], [["b"], [], []], [[], [], ["o", "a"]]]
        logs = [thing for thing in odd_things() + empties()]
        indexes = [thing for thing in NO_NUMBERS] + [3, 10 ** 20]
        return {
            "books": listed(BadBooks, BOOKS[:2], books) + [(BadBooks, [], 0), (BadBooks, (), 0), (BadBooks, [BOOKS[0]] * 12, 10)],
            "starts": listed(BadStarts, STARTS[:1], starts) + [
                (BadStarts, [], 0), (BadStarts, (), 0), (BadStarts, STARTS[:2], 2), (BadStarts, STARTS + [STARTS[0]], 3),
            ],
            (joined_log, "log"): listed(BadHousesLog, LOG[:2], logs + [("make", "a"), (3, ("make", "a")), (1, ("make", "a"))]),
            (parted_log, "log"): listed(BadLog, [("make", "a0")], logs + [("make", "a"), ("make", "a1"), (0, ("make", "a"))]),
            "house": very(NoHouse, indexes),
            "asked": very(BadHeld, odd_things() + empties() + [(3, ()), (True, ()), (0, "x"), (0, ("y",)), (2, ()), ("b", ()), ("a0", ()), ("o", ())]),
            "some": very(BadSome, NO_LISTS + [[thing] for thing in indexes] + [[2], [1, 0], [0, 0], [0, 1, 2], [0, None], [Hostile()]]),
        }

    def test_any_object(self):
        for thing in odd_things() + empties() + NO_LISTS:
            told = houses_fault(BOOKS, STARTS, thing)
            if not isinstance(thing, (list, tuple)):
                self.assertEqual(told, (0, "list"))
            elif len(thing) == 0:
                self.assertIsNone(told)
            else:
                self.assertIn(told, [(0, "pair"), (0, "house"), (0, "call")])
