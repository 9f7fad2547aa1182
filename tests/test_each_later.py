"""What holds of each function of 16.6 and of sections 17 to 19: errors in order, lists for tuples, what is told is new."""

from tests.each import BOOK, NO_ASKED, NO_LISTS, START, Each, listed, very, wrong_by_name
from tests.test_custodies import NO_CUSTODIES, NO_TELLERS, not_empty
from tests.test_custodymachines import NO_MACHINES
from tests.test_each_houses import SECRETS
from tests.test_toldkeys import NO_LOTS
from tests.tools import Hostile, Odd, WrapCase, empties, odd_things, ring
from underwraps.books import Book
from underwraps.custodies import custodians, is_custody
from underwraps.custodylogs import custody_fault, custody_played
from underwraps.custodymachines import custody_lack, custody_leads, custody_machine
from underwraps.errors import BadAsked, BadLog, BadMachine, BadRoot, BadSecond, BadStart, BadThing, BadTies
from underwraps.felling import felling_log
from underwraps.lotprices import barring_tree, cheapest_lot, is_barring
from underwraps.refusals import BadCustody, BadLot, BadPrice, BadPrices, BadRole, BadSecrets, BadTellers
from underwraps.shuthouses import beneath, fallen_handles, falls_shut, is_shelter, known_shut, shelter
from underwraps.toldkeys import falls_running, felling_keys, heads, told_book
from underwraps.twobooks import (
    both_books, compared, first_more, is_cover, is_parting, only_together, paired_rows, parting, parting_key,
)

PRICES = {permit: at for at, permit in enumerate(BOOK.all_permits())}
SECOND = Book(["a", "b", "c", "d"], ["x", "y"], [("make", "a"), ("wrap", "b", "c"), ("open", "b"), ("show", "d")])
CUSTODY = (2, [("b", "ann"), ("a", "bob"), ("c", "bob"), ("c", "ann")], ["c", "a"])
CLOSED = [("make", "b"), ("wrap", 0, 3)]
NO_STATES_LOTS = listed(BadSecrets, [(0, ()), ("b", ["x"])], NO_ASKED + [("known", ()), ["known", []]])


class TestBook(Each, WrapCase):
    PARAMETERS = {
        cheapest_lot: "book start secrets prices", is_barring: "book start secrets prices price thing",
        barring_tree: "book start secrets prices", told_book: "book start lot role", falls_running: "book start lot asked",
        felling_keys: "book start asked", heads: "book start", known_shut: "book start log lot thing",
        fallen_handles: "book start log lot", falls_shut: "book start lot asked", beneath: "book start lot",
        felling_log: "book start lot asked", is_shelter: "book start lot asked thing", shelter: "book start lot asked",
        is_custody: "book thing", custodians: "book custody", custody_fault: "book start custody tellers thing",
        custody_played: "book start custody tellers log", custody_leads: "book start custody tellers ties asked",
        custody_lack: "book start custody tellers machine", custody_machine: "book start custody tellers",
    }
    GOOD = {
        "book": BOOK, "start": START, "secrets": SECRETS, "prices": PRICES, "price": 2, "lot": [0, 2], "role": "new", "asked": ("b", ("y",)),
        "custody": CUSTODY, "tellers": ["bob", "ann"], "log": CLOSED, "ties": [("b", "a"), ("known", "c")], "machine": ([("a", "b")], [["b"], ["a", "b"]]),
    }
    OF = {
        is_barring: {"thing": barring_tree(BOOK, START, SECRETS, PRICES)},
        known_shut: {"log": [("make", "b")], "thing": ("under", (("given", 0), ("x",)), (("given", 2), ()))},
        fallen_handles: {"log": [("make", "b")]}, felling_log: {"lot": [0], "asked": (2, ("x",))},
        shelter: {"lot": [1], "asked": ("b", ())}, is_shelter: {"lot": [1], "asked": ("b", ()), "thing": shelter(BOOK, START, [1], ("b", ()))},
        is_custody: {"thing": CUSTODY}, custody_fault: {"thing": [("make", "b"), ("part", 3, "ann"), ("join", (("own", 0), ("x",)), "c")]},
        custody_played: {"log": [("make", "b"), ("part", 3, "ann"), ("part", 0, "bob"), ("join", (("own", 0), ("x",)), "c"), ("part", 4, "bob")]},
    }
    NOTHING = {custody_fault: (0, "list")}

    def wrongs(self):
        return wrong_by_name() | {
            "secrets": NO_STATES_LOTS, "lot": very(BadLot, NO_LOTS + [[3], [0, 3]]),
            "prices": very(BadPrices, odd_things() + empties() + [dict(list(PRICES.items())[1:]), PRICES | {("make", "b"): -1}, PRICES | {"make": 0}]),
            "price": very(BadPrice, [-1, True, False, None, "0", 1.0, [1], Odd(), Hostile(), ring()]),
            "role": very(BadRole, [None, 0, True, "", "a", "known", "New", "abcdefghi", b"new", ["new"], ("d",), Odd(), Hostile(), ring()]),
            "asked": very(BadAsked, NO_ASKED), "custody": very(BadCustody, NO_CUSTODIES), "tellers": very(BadTellers, not_empty(NO_TELLERS)),
            "ties": listed(BadTies, [("b", "a"), ["a", "b"]], [("a", "a"), ("a", "q"), ("b", "a"), None, "ab", Hostile(), ("a",)]),
            "machine": very(BadMachine, [thing for thing in NO_MACHINES if not (isinstance(thing, list) and len(thing) == 0)]),
            "log": listed(BadLog, [("make", "b")], odd_things() + [("make", "a"), ("show", 0), ("show", 9), ("seal", 1, (("given", 1), ()))]),
            (known_shut, "thing"): very(BadThing, odd_things() + empties()),
        }

    def test_any_object(self):
        for function in (is_barring, is_shelter, is_custody, custody_fault):
            for thing in odd_things() + empties() + NO_LISTS:
                named = self.arguments(function)
                named["thing"] = thing
                told = function(**named)
                if function is not custody_fault:
                    self.assertIs(told, False)
                elif not isinstance(thing, (list, tuple)):
                    self.assertEqual(told, (0, "list"))
                else:
                    self.assertEqual(told, (0, "call") if len(thing) else None)

    def test_known_shut_names_an_error(self):
        for thing in odd_things() + empties():
            self.raises(BadThing, thing, known_shut, BOOK, START, [], [0], thing)


class TestTwo(Each, WrapCase):
    PARAMETERS = {
        first_more: "book second start", parting_key: "book second start", compared: "book second start",
        paired_rows: "book second start root", is_cover: "book second start thing", parting: "book second start",
        is_parting: "book second start thing", both_books: "book second", only_together: "book second start",
    }
    GOOD = {"book": BOOK, "second": SECOND, "start": START, "root": "b"}
    OF = {
        is_cover: {"book": SECOND, "second": SECOND, "thing": [paired_rows(SECOND, SECOND, START, root) for root in (0, 1, 2, "a", "known")]},
        is_parting: {"thing": parting(BOOK, SECOND, START)},
    }

    def wrongs(self):
        wrong = [["b", "a"], ["a", "a"], "a", None, ["q"], Hostile()]
        return wrong_by_name() | {
            "start": listed(BadStart, [["a"], []], wrong + [["d"], ["a", "d"]]), (is_cover, "start"): listed(BadStart, [["a"], []], wrong),
            "second": very(BadSecond, odd_things() + empties() + [Book(["a"], [], []), Book(["a"], ["x"], []), Book([], ["x", "z"], []), [BOOK]]),
            "root": very(BadRoot, odd_things()[:3] + [3, 0.0, "0", "c", "q", "", (0,), [0], Odd(), Hostile(), ring(), -1, True]),
        }
