"""What holds of each function of sections 9 to 12: errors in order, lists for tuples, what is told is new."""

from tests.each import BOOK, NO_ASKED, NO_LISTS, NO_NUMBERS, NO_STATES, START, Each, listed, very, wrong_by_name
from tests.tools import Hostile, Odd, WrapCase, empties, odd_things, ring
from underwraps.errors import BadFirst, BadLog, BadProof, BadQuestions, BadTable
from underwraps.leanlogs import is_lean, led_over
from underwraps.ledlogs import led_by
from underwraps.outwords import all_first, count_first, count_out, first_words, kind_of, parted_behind, shortest_out
from underwraps.prooflogs import log_of_proof, telling_log
from underwraps.proofs import told_proof
from underwraps.refusals import BadMany, BadMate, BadRow, BadWord
from underwraps.settling import brought_along, reach, settled
from underwraps.tables import is_table, least_table, parting_word, road_to, table_row
from underwraps.verdicts import is_bringing, is_never, judged, verdict

ASKED = (0, ("y", "x", "y"))
LOG = [("make", "b"), ("copy", 0, "b"), ("derive", 0, "x", "c"), ("show", 2), ("show", 5), ("seal", 1, (("given", 0), ("x",)))]
TABLE = [(False, (1, 0)), (False, (2, 0)), (True, (2, 2))]
NEVER = ("b", ("x",))
NO_TABLES = odd_things() + empties() + [
    [(False, (0, 0)), (False, (0, 2))], [(False, (0,))], [(False, (0, 0, 0))], [(0, (0, 0))], [(1, (0, 0))], [(None, (0, 0))],
    [(False, (0, True))], [(False, (0, -1))], [(False, (0, 0.0))], [(False, "00")], [(False, {0: 0, 1: 0})], [(False, (0, None))],
    [(False, (0, 0), 0)], [(False,)], [(False, (0, 0)), None], [(Hostile(), (0, 0))], [(False, (0, Hostile()))], [(False, Hostile())],
    {0: (False, (0, 0))}, "", [("True", (0, 0))], [(False, (0, 0)), (Odd(), (0, 0))], [(b"", (0, 0))], [((0, 0), False)], ring(),
]
NO_BASES = [thing for thing in odd_things() if not isinstance(thing, dict)] + [
    {("given", 3): (("given", 0), ())}, {("given", 0): (("given", 2), ())}, {("given", 0): (("given", 0), ("z",))},
    {("given", 0): ("given", 0)}, {("made", 1): (("given", 0), ())}, {("made", 0): (("given", 2), ())},
    {("made", 0): (("made", 1), ())}, {("own", 0): (("given", 1), ())}, {("own", True): (("own", 0), ())},
    {("own", -1): (("own", 0), ())}, {("own", 0, 0): (("own", 0), ())}, {"own": (("own", 0), ())}, {0: (("own", 0), ())},
    {(("own", 0), ()): (("own", 0), ())}, {("own", 0): Hostile()}, {("own", 0): None}, {None: None}, {Odd(): Odd()},
    {("own", 0): (("own", 0), ()), ("own", 1): 1}, [("own", 0), (("own", 0), ())], [(("own", 0), (("own", 0), ()))],
]


class TestEach(Each, WrapCase):
    PARAMETERS = {
        is_bringing: "book start asked state thing", is_never: "book start asked state thing", verdict: "book start asked state",
        judged: "book start asked state thing", settled: "book start questions", reach: "book start asked",
        brought_along: "book start", log_of_proof: "book start asked state proof", telling_log: "book start asked",
        is_lean: "book start thing", led_over: "book start log", led_by: "book start first log table",
        is_table: "book thing", table_row: "book table word", least_table: "book start root", road_to: "book table row",
        parting_word: "book table row mate", first_words: "book start root many", count_out: "book start root many",
        count_first: "book start root many", all_first: "book start root", kind_of: "book start asked",
        shortest_out: "book start asked", parted_behind: "book start asked mate",
    }
    GOOD = {
        "book": BOOK, "start": START, "asked": ASKED, "state": "known", "root": 0, "log": LOG, "many": 3, "table": TABLE,
        "word": ("x", "y", "x"), "row": 2, "mate": 1, "first": LOG[:3], "questions": [(ASKED, "known"), (ASKED, "c"), ((1, ()), "a")],
        "proof": told_proof(BOOK, START, ASKED, "known"),
    }
    OF = {
        is_bringing: {"thing": verdict(BOOK, START, ASKED, "known")[1]}, is_lean: {"thing": LOG}, is_table: {"thing": TABLE},
        is_never: {"asked": NEVER, "state": "known", "thing": settled(BOOK, START, [])[1]},
        judged: {"thing": verdict(BOOK, START, ASKED, "known")}, parted_behind: {"asked": (0, ()), "mate": ("b", ())},
        led_by: {"table": {("made", 0): (("given", 0), ()), ("given", 2): (("given", 0), ("x",)), ("own", 1): (("own", 0), ("x",))}},
    }
    NOTHING = {judged: None}
    EMPTY = {is_lean: True}

    def wrongs(self):
        indexes = NO_NUMBERS + [3, 10 ** 20]
        logs = odd_things() + empties() + [("make", "c"), ("show", 7), ("open", 0, (("own", 0), ()))]
        return wrong_by_name() | {
            "questions": listed(BadQuestions, [(ASKED, "a")], NO_ASKED + [
                (ASKED, state) for state in NO_STATES] + [(ASKED,), (ASKED, "a", "a"), "ab", ((3, ()), "a"), {ASKED: "a"}],
            ),
            "proof": very(BadProof, odd_things() + empties() + [([], "a", []), ([], "b", ["over"]), ([None], "a", [])]),
            "log": listed(BadLog, LOG[:3], logs),
            "first": listed(BadFirst, LOG[:3], logs),
            (led_by, "table"): very(BadTable, NO_BASES),
            "table": very(BadTable, NO_TABLES),
            "word": very(BadWord, NO_LISTS + [["z"], ("x", "y", "z"), ["x", Hostile()], [None], [["x"]], ("x", 0), ("xy",), ring()]),
            "row": very(BadRow, indexes),
            "mate": very(BadMate, indexes),
            (parted_behind, "mate"): very(BadMate, NO_ASKED),
            "many": very(BadMany, NO_NUMBERS + ["x", (), {}, 3.5]),
        }

    def test_no_table_of_any_kind(self):
        for thing in NO_TABLES:
            self.says(False, is_table(BOOK, thing))

    def test_tuples_are_told(self):
        for function in (verdict, settled, log_of_proof, telling_log, led_over, led_by, road_to, parting_word, shortest_out, parted_behind):
            self.assertIs(type(function(**self.arguments(function))), tuple)
        self.assertEqual(repr(first_words(BOOK, START, 0, 1)), "[('x',)]")
        self.assertEqual(repr(least_table(BOOK, [[]], 0)), "[(False, (0, 0))]")
        self.assertEqual(repr(road_to(BOOK, [[True, [0, 0]]], 0)), "()")
        self.assertEqual(repr(led_over(BOOK, [], [["make", "b"]])), "([('make', 'b')], [0], [(('made', 0), ())])")
        told = led_by(BOOK, [["a"]], [], [["derive", 0, "x", "c"]], {("given", 0): [["given", 0], []]})
        self.assertEqual(repr(told), "([('derive', 0, 'x', 'c')], [0, 1], [])")
