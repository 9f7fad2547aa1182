"""What holds of each function of sections 7, 8 and 10: errors in order, lists for tuples, what is told is new."""

from tests.each import BOOK, NO_LISTS, NO_NUMBERS, NO_STATES, NO_TIES, START, Each, listed, very, wrong_by_name
from tests.tools import WrapCase, empties, odd_things
from underwraps.books import Book
from underwraps.bunches import bunches_of, least_key
from underwraps.errors import (
    BadHouse, BadIndex, BadMachine, BadRows, BadSecond, BadStates, BadTies,
)
from underwraps.houses import House
from underwraps.leading import leads_to, pairs_of
from underwraps.logs import played
from underwraps.machines import grown, is_closed, least_machine, machine_lack, machine_wants, machines_met
from underwraps.proofs import is_proof, proof_fault, row_says, told_proof
from underwraps.ranks import asked_rank, machine_ranks, ranks_fault
from underwraps.states import first_states, is_asked, moves_of, roots_of, states_of
from underwraps.strays import strays
from underwraps.ties import ties_closed, ties_thinned

PARAMETERS = {
    states_of: "book", moves_of: "book", roots_of: "book start", first_states: "book start root", is_asked: "book start thing",
    leads_to: "book start ties asked", pairs_of: "book start ties", bunches_of: "book start ties",
    least_key: "book start ties states", ties_closed: "book ties", ties_thinned: "book ties",
    machine_wants: "book start machine", machine_lack: "book start machine", is_closed: "book start thing",
    least_machine: "book start", grown: "book start machine", machines_met: "book machine second",
    strays: "book start ties house", proof_fault: "book start asked state thing", is_proof: "book start asked state thing",
    row_says: "book start rows index", told_proof: "book start asked state", machine_ranks: "book start",
    ranks_fault: "book start thing", asked_rank: "book start asked state",
}
HOUSE = played(BOOK, START, [("make", "b"), ("copy", 0, "b"), ("derive", 0, "x", "c"), ("show", 2), ("show", 5)])
ROWS = [("start", 0, "a", "b"), ("let", ("copy", "a", "b")), ("first", 0, 1)]
MACHINE = ([("c", "b"), ("a", "b")], [("known", "known"), ("a", "a"), ("b", "c")])
GOOD = {
    "book": BOOK, "start": START, "root": 0, "asked": (0, ("x", "y")), "state": "b", "ties": [("c", "b"), ("a", "c"), ("a", "b")],
    "states": ["a", "b"], "machine": MACHINE, "second": (MACHINE[0][:1], MACHINE[1][::-1]), "house": HOUSE, "rows": ROWS,
    "index": 1,
}
THINGS = {
    is_asked: (2, ("x",)), is_closed: least_machine(BOOK, START), ranks_fault: machine_ranks(BOOK, START),
    proof_fault: (ROWS, "a", [("over", 1), ("go", "a")]), is_proof: told_proof(BOOK, START, GOOD["asked"], "b"),
}


class TestEach(Each, WrapCase):
    PARAMETERS, GOOD = PARAMETERS, GOOD
    OF = {function: {"thing": thing} for function, thing in THINGS.items()}
    NOTHING = {proof_fault: ("form", 0), ranks_fault: ("form", 0)}

    def wrongs(self):
        machines = odd_things() + [(NO_TIES, []), ([], [("a", "q")]), ([("a", "a")], []), ([], [("a", "a")] * 2)]
        return wrong_by_name() | {
            "ties": listed(BadTies, [("c", "b"), ["known", "a"]], NO_TIES),
            "states": very(BadStates, NO_LISTS + [[state] for state in NO_STATES] + [("a", "b", state) for state in NO_STATES]),
            "machine": very(BadMachine, machines),
            "second": very(BadSecond, machines),
            "house": very(BadHouse, odd_things() + empties() + [
                House(BOOK, []), House(Book(["a", "b", "c"], [], []), START), House,
            ]),
            "rows": listed(BadRows, ROWS, NO_TIES + [("first", 0, 3), ("start", 0, "a", "q")]),
            "index": very(BadIndex, NO_NUMBERS + [3]),
        }

    def test_tuples_are_told(self):
        for function in (moves_of, pairs_of, ties_closed, ties_thinned):
            self.assertTrue(all([type(part) is tuple for part in function(**self.arguments(function))]))
        for function in (machine_wants, least_machine, grown, machines_met, machine_ranks, told_proof, strays):
            self.assertIs(type(function(**self.arguments(function))), tuple)
        self.assertEqual(repr(leads_to(BOOK, START, [], ("b", ["y"]))), "['a']")
        self.assertEqual(repr(least_key(BOOK, START, [], ["c"])), "(2, ())")
