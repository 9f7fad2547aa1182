"""What holds of each function of 19.5, 19.6 and of section 21: errors in order, lists for tuples, what is told is new."""

from tests.each import BOOK, NO_ASKED, NO_LISTS, NO_STATES, START, Each, listed, very, wrong_by_name
from tests.test_custodies import NO_CUSTODIES, NO_TELLERS, not_empty
from tests.test_each_later import CUSTODY
from tests.tools import Hostile, WrapCase, empties, odd_things
from underwraps.booktexts import book_text, book_text_fault, read_book
from underwraps.custodyverdicts import custody_judged, custody_verdict
from underwraps.errors import BadAsked, BadMachine, BadState, BadThing
from underwraps.logtexts import log_text, log_text_fault, read_log
from underwraps.machinetexts import machine_text, machine_text_fault, read_machine
from underwraps.refusals import (
    BadBookText, BadCalls, BadCustody, BadLogText, BadMachineText, BadStartText, BadTellers, BadThingText,
)
from underwraps.starttexts import read_start, start_text, start_text_fault
from underwraps.tellers import least_loyal, least_tellers
from underwraps.thingtexts import read_thing, thing_text, thing_text_fault

ASKED = ("b", ("y",))
THING = ("under", (("given", 0), ("x",)), (("own", 2), ("y", "x")))
CALLS = [("make", "c"), ("bring", "a", (("own", 1), ("x",))), ("open", 7, THING)]
MACHINE = ([("b", "a"), ("known", "c")], [("b", "a"), ("a", "a")])
READERS = {read_book: BadBookText, read_start: BadStartText, read_thing: BadThingText, read_log: BadLogText, read_machine: BadMachineText}
FAULTS = [book_text_fault, start_text_fault, thing_text_fault, log_text_fault, machine_text_fault]


class TestEach(Each, WrapCase):
    PARAMETERS = {
        custody_verdict: "book start custody tellers asked state", custody_judged: "book start custody tellers asked state thing",
        least_tellers: "book start custody asked", least_loyal: "book start custody asked", book_text: "book", start_text: "book start",
        thing_text: "book thing", log_text: "book log", machine_text: "book machine",
    }
    GOOD = {
        "book": BOOK, "start": START, "custody": CUSTODY, "tellers": ["bob", "ann"], "asked": ASKED, "state": "known", "log": CALLS, "machine": MACHINE,
    }
    OF = {custody_judged: {"thing": custody_verdict(BOOK, START, CUSTODY, ["bob", "ann"], ASKED, "known")}, thing_text: {"thing": THING}}
    NOTHING = {custody_judged: None}

    def wrongs(self):
        return wrong_by_name() | {
            "asked": very(BadAsked, NO_ASKED), "state": very(BadState, NO_STATES), "custody": very(BadCustody, NO_CUSTODIES),
            "tellers": very(BadTellers, not_empty(NO_TELLERS)), "log": listed(BadCalls, CALLS, odd_things() + empties() + [("make", "q"), ("part", 0, "ann")]),
            "machine": very(BadMachine, [thing for thing in odd_things() + [([], []), None, ([("a", "a")], []), ([], None)] if thing_is_wrong(thing)]),
        }

    def test_any_object(self):
        for thing in odd_things() + empties() + NO_LISTS:
            named = self.arguments(custody_judged)
            named["thing"] = thing
            self.assertIsNone(custody_judged(**named))
            self.raises(BadThing, thing, thing_text, BOOK, thing)


def thing_is_wrong(thing):
    """Tell whether a thing is no machine, of those passed here."""
    return not (isinstance(thing, (list, tuple)) and len(thing) == 2 and all([isinstance(part, list) and part == [] for part in thing]))


class TestTexts(WrapCase):
    def test_any_object(self):
        for fault in FAULTS:
            books = [] if fault is book_text_fault else [BOOK]
            for thing in odd_things() + empties() + NO_LISTS:
                if isinstance(thing, str) and thing == "" and fault not in (book_text_fault, thing_text_fault):
                    self.assertIsNone(fault(*books, thing))
                elif isinstance(thing, str):
                    line, sign = fault(*books, thing)
                    self.assertTrue(line == 1 and 1 <= sign <= len(thing) + 1)
                else:
                    self.assertEqual(fault(*books, thing), (0, 0))
                    self.assertEqual(fault(**dict(zip(["book", "text"][-len(books) - 1:], [*books, thing]))), (0, 0))

    def test_readers_name_their_errors(self):
        for reader, error in READERS.items():
            books = [] if reader is read_book else [BOOK]
            for thing in odd_things() + [None, 0, b"", "?", "\n\n", "g0\ng0", "tie\n", Hostile()]:
                with self.assertRaises(error) as caught:
                    if isinstance(thing, str) and thing == "" and reader in (read_start, read_log, read_machine):
                        raise error(0, 0)
                    reader(*books, thing)
                self.assertEqual(sorted(vars(caught.exception)), ["line", "sign"])

    def test_told_new(self):
        for reader, text in ((read_start, "given a\ngiven\n"), (read_log, "make b\nshow 0\n"), (read_machine, "tie a b\npair a a\n")):
            told = reader(BOOK, text)
            kept = repr(told)
            for part in (told if isinstance(told, tuple) else [told]):
                part.clear()
            self.assertEqual(repr(reader(text=text, book=BOOK)), kept)
