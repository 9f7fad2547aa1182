"""19.5, 19.7: told or never with custodians, judged."""

from tests.each import NO_ASKED, NO_STATES
from tests.plain import plain_knows
from tests.plaincustody import (
    all_custody_logs, all_tellers, lots_of_states, plain_custody_lack, plain_custody_leads, plain_custody_least, plain_custody_log,
)
from tests.plainrules import all_asked, all_ties, plain_states
from tests.plainwords import keys_asked
from tests.samples import all_permits
from tests.samples_custody import some_custody, some_custody_log
from tests.test_custodies import BARE, BOOK, CUSTODY, LOG, NAMES, NONE, OPENS
from tests.tools import Dice, Hostile, WrapCase, as_lists, as_tuples, empties, odd_things
from underwraps.books import Book
from underwraps.custodymachines import custody_machine
from underwraps.custodyverdicts import custody_judged, custody_verdict
from underwraps.errors import BadAsked, BadState
from underwraps.verdicts import judged, verdict

LEAST = ([("k", "known")], [["a", "k", "known"], ["known"]])
KEPT = ([], [["a", "k"], ["known"]])


def plain_custody_brings(book, start, custody, tellers, log, asked, state):
    """Tell whether a list of calls is a custody log that brings an asked key to a state, by 9.1 and 19.2."""
    house, fault = plain_custody_log(book.all_permits(), start, custody, tellers, log)
    if fault is not None:
        return False
    keys = keys_asked(log, asked)
    if state == "known":
        return any([plain_knows(house.out, key) for key in keys])
    return any([(key, state) in house.handles for key in keys])


class TestExample(WrapCase):
    def test_19_7(self):
        asked = ("k", [])
        self.assertEqual(custody_judged(OPENS, [], CUSTODY, [], asked, "known", ("told", LOG)), "told")
        word, log = custody_verdict(OPENS, [], CUSTODY, [], asked, "known")
        self.assertEqual(word, "told")
        self.says(True, plain_custody_brings(OPENS, [], CUSTODY, [], log, asked, "known"))
        self.assertEqual(custody_verdict(BOOK, [], CUSTODY, ["bob"], asked, "known"), ("never", KEPT))
        self.assertEqual(custody_verdict(BOOK, [], CUSTODY, ["bob", "ann"], asked, "known")[0], "told")


class TestVerdict(WrapCase):
    def test_edges(self):
        self.assertEqual(custody_verdict(BARE, [], NONE, [], ("known", ()), "known"), ("told", []))
        self.assertEqual(custody_verdict(BARE, [[]], NONE, [], (0, ()), "known"), ("never", ([], [[], ["known"]])))
        self.assertEqual(custody_verdict(BOOK, [["a"]], CUSTODY, [], (0, ()), "a"), ("told", []))
        told = custody_verdict(BOOK, [], CUSTODY, ["ann", "bob"], ("known", ()), "a")
        self.assertEqual(told, ("told", [("join", (("own", 0), ()), "a")]))
        one = (1, [("k", "ann")], [])
        word, log = custody_verdict(BOOK, [["k"]], one, ["ann"], (0, ()), "known")
        self.assertEqual((word, log[0]), ("told", ("part", 0, "ann")))
        self.says(True, plain_custody_brings(BOOK, [["k"]], one, ["ann"], log, (0, ()), "known"))
        self.assertEqual(custody_verdict(BOOK, [["k"]], one, [], (0, ()), "known")[0], "never")
        many = (4, CUSTODY[1], ["a"])
        self.assertEqual(custody_verdict(OPENS, [], many, NAMES, ("k", ()), "a")[0], "never")

    def test_three_parts_of_one_key(self):
        book = Book(["a", "b", "c", "d"], ["x"], [("derive", "a", "x", "a"), ("derive", "a", "x", "b"), ("copy", "b", "c"), ("show", "d")])
        custody = (3, [("a", "ann"), ("b", "bob"), ("c", "cyd")], ["d"])
        word, log = custody_verdict(book, [["a"]], custody, [], (0, ("x", "x")), "known")
        self.assertEqual((word, len([call for call in log if call[0] == "part"])), ("told", 3))
        self.says(True, plain_custody_brings(book, [["a"]], custody, [], log, (0, ("x", "x")), "known"))
        self.assertEqual(custody_verdict(book, [["a"]], custody, [], (0, ()), "known")[0], "never")

    def test_forms(self):
        for shape in (as_lists, as_tuples):
            for tellers, word in (([], "never"), (["ann", "bob"], "told")):
                told = custody_verdict(
                    state="known", asked=shape(("k", ())), tellers=shape(tellers), custody=shape(CUSTODY), start=shape([]), book=BOOK)
                self.assertEqual(told[0], word)
                self.assertEqual(repr(told), repr(custody_verdict(BOOK, [], CUSTODY, tellers, ("k", ()), "known")))
                self.assertEqual(custody_judged(
                    thing=shape(told), state="known", asked=shape(("k", ())), tellers=shape(tellers), custody=shape(CUSTODY), start=shape([]), book=BOOK), word)

    def test_the_same_in_any_order(self):
        for count in range(60):
            dice, book, start, custody, tellers = some_custody(count)
            other = (custody[0], dice.mixed(custody[1]), dice.mixed(custody[2]))
            for asked in all_asked(book, start, 1):
                told = custody_verdict(book, start, custody, tellers, asked, "known")
                self.assertEqual(custody_verdict(book, start, other, dice.mixed(tellers), asked, "known"), told)

    def test_wrong(self):
        for thing in NO_ASKED + [("a", ())]:
            self.raises(BadAsked, thing, custody_verdict, BOOK, [], CUSTODY, [], thing, Hostile())
            self.raises(BadAsked, thing, custody_judged, BOOK, [], CUSTODY, [], thing, Hostile(), Hostile())
        for thing in NO_STATES + ["b"]:
            self.raises(BadState, thing, custody_verdict, BOOK, [], CUSTODY, [], ("k", ()), thing)
            self.raises(BadState, thing, custody_judged, BOOK, [], CUSTODY, [], ("k", ()), thing, Hostile())

    def test_exactly_one(self):
        told = never = joined = parted = 0
        for count in range(260):
            dice, book, start, custody, _ = some_custody(count)
            tellers = dice.one(all_tellers(custody))
            least = plain_custody_least(book, start, custody, tellers)
            for asked in all_asked(book, start, 2):
                led = plain_custody_leads(book, start, custody, tellers, least[0], asked)
                for state in plain_states(book):
                    word, paper = custody_verdict(book, start, custody, tellers, asked, state)
                    if state in led:
                        self.assertEqual(word, "told")
                        self.says(True, plain_custody_brings(book, start, custody, tellers, paper, asked, state))
                        told += 1
                        joined += "join" in [call[0] for call in paper]
                        parted += "part" in [call[0] for call in paper]
                    else:
                        self.assertEqual((word, paper), ("never", least))
                        never += 1
        self.assertGreater(min(told, never), 1000)
        self.assertGreater(min(joined, parted), 500)

    def test_no_log_brings_what_never_comes(self):
        looked = 0
        for count in range(200):
            dice, book, start, custody, tellers = some_custody(count)
            log, _ = some_custody_log(Dice(count + 77), book, start, custody, tellers, 14)
            for asked in all_asked(book, start, 1):
                for state in plain_states(book):
                    if plain_custody_brings(book, start, custody, tellers, log, asked, state):
                        self.assertEqual(custody_verdict(book, start, custody, tellers, asked, state)[0], "told")
                        looked += 1
        self.assertGreater(looked, 800)

    def test_by_all_custody_logs_of_few_calls(self):
        """What never comes comes by none of them; what some of them brings is told."""
        came = never = 0
        for count in range(70):
            dice, roles = Dice(count), ["a", "b"]
            every = [permit for permit in all_permits(roles, []) if permit[0] not in ("show", "bring")]
            book, start = Book(roles, [], sorted(set(dice.some(every, 3)))), [[dice.one(roles)]]
            pairs = dice.mixed([(role, name) for role in roles for name in NAMES[:2]])[:3]
            custody = (dice.one([1, 2]), pairs, dice.part(roles))
            tellers = dice.part(sorted({name for _, name in pairs}))
            logs = all_custody_logs(book, start, custody, tellers, 3)
            for asked in all_asked(book, start, 0):
                for state in plain_states(book):
                    brought = [log for log, house in logs if self.is_there(house, keys_asked(log, asked), state)]
                    if custody_verdict(book, start, custody, tellers, asked, state)[0] == "never":
                        self.assertEqual(brought, [])
                        never += 1
                    came += len(brought) > 0
        self.assertGreater(min(came, never), 100)

    def is_there(self, house, keys, state):
        """Tell whether one of some keys is in a state."""
        return any([plain_knows(house.out, key) if state == "known" else (key, state) in house.handles for key in keys])

    def test_19_5_without_parts_and_joins(self):
        for count in range(80):
            dice, book, start, _, _ = some_custody(count)
            for asked in all_asked(book, start, 1):
                for state in plain_states(book):
                    none = (dice.one([1, 2]), [], dice.part(book.all_roles()))
                    word, paper = custody_verdict(book, start, none, [], asked, state)
                    plain_word, plain_paper = verdict(book, start, asked, state)
                    self.assertEqual(word, plain_word)
                    if word == "told":
                        self.assertEqual(judged(book, start, asked, state, (word, paper)), "told")
                        self.assertEqual(custody_judged(book, start, none, [], asked, state, (plain_word, plain_paper)), "told")
                    else:
                        self.assertEqual(paper[0], plain_paper[0])


class TestJudged(WrapCase):
    def test_small_ones(self):
        asked = ("k", ())
        for thing, word in [
            (("told", LOG), "told"), (["told", tuple(LOG)], "told"), (("told", LOG[:-1]), None), (("told", LOG + [("make", "k")]), "told"),
            (("told", LOG + [None]), None), (("never", LEAST), None), (("never", LOG), None), (("told", LEAST), None), (("told", None), None),
            (("Told", LOG), None), (("told", LOG, 0), None), (("told",), None), ("told", None), (("never", KEPT), None), ({"told": LOG}, None),
            ((b"told", LOG), None), (("told", Hostile()), None), (("never", Hostile()), None), ((Hostile(), LOG), None), (("told", []), None),
        ]:
            self.assertEqual(custody_judged(OPENS, [], CUSTODY, [], asked, "known", thing), word)
        for thing, word in [
            (("never", KEPT), "never"), (["never", as_lists(KEPT)], "never"), (("never", (KEPT[0], KEPT[1][::-1])), "never"),
            (("never", (KEPT[0], KEPT[1] + [["a"], []])), "never"), (("never", (KEPT[0], KEPT[1][1:])), None), (("never", (LEAST[0], KEPT[1])), None),
            (("never", ([("known", "k")], [["a", "k"], ["a", "k", "known"]])), None), (("told", LOG[:4]), None), (("never", ([], [])), None),
        ]:
            self.assertEqual(custody_judged(BOOK, [], CUSTODY, ["cyd"], asked, "known", thing), word)
        self.assertEqual(custody_judged(BOOK, [], CUSTODY, [], asked, "a", ("told", LOG[:4])), "told")
        self.assertEqual(custody_judged(BOOK, [], CUSTODY, [], asked, "a", ("told", LOG[:3])), None)
        self.assertEqual(custody_judged(BOOK, [], CUSTODY, ["ann", "bob"], asked, "known", ("told", LOG[:3])), "told")
        self.assertEqual(custody_judged(BOOK, [], CUSTODY, ["ann"], asked, "known", ("told", LOG[:3])), None)
        self.assertEqual(custody_judged(BOOK, [], CUSTODY, [], ("known", ()), "known", ("told", [])), "told")

    def test_any_object(self):
        for thing in odd_things() + empties() + [None, "never", {}, iter([])]:
            self.assertIsNone(custody_judged(OPENS, [], CUSTODY, [], ("k", ()), "known", thing))
            self.assertIsNone(custody_judged(OPENS, [], CUSTODY, [], ("k", ()), "known", ("told", thing)))
            self.assertIsNone(custody_judged(BOOK, [], CUSTODY, [], ("k", ()), "known", ("never", thing)))

    def test_any_closed_machine(self):
        said = {}
        for count in range(200):
            dice, book, start, custody, tellers = some_custody(count)
            ties, bunches = custody_machine(book, start, custody, tellers)
            for _ in range(6):
                more = [tie for tie in all_ties(book) if dice.number(6) == 0 and tie not in ties]
                lots = [lot for lot in lots_of_states(book) if dice.number(3) and lot not in bunches]
                machine = dice.one([(ties, bunches), (ties, bunches + lots), (ties + more, bunches + lots), (ties + more, lots_of_states(book))])
                asked, state = dice.one(all_asked(book, start, 2)), dice.one(plain_states(book))
                wanted = plain_custody_lack(book, start, custody, tellers, machine) is None
                wanted = wanted and state not in plain_custody_leads(book, start, custody, tellers, machine[0], asked)
                told = custody_judged(book, start, custody, tellers, asked, state, ("never", dice.one([machine, as_lists(machine), as_tuples(machine)])))
                self.assertEqual(told, "never" if wanted else None)
                if wanted:
                    self.assertEqual(custody_verdict(book, start, custody, tellers, asked, state)[0], "never")
                said[told] = said.get(told, 0) + 1
        self.assertGreater(min(said.values()), 200)

    def test_logs_as_a_plain_reading(self):
        said = {}
        for count in range(150):
            dice, book, start, custody, tellers = some_custody(count)
            log, _ = some_custody_log(Dice(count), book, start, custody, tellers, 12)
            for asked in all_asked(book, start, 1):
                for state in plain_states(book):
                    wanted = plain_custody_brings(book, start, custody, tellers, log, asked, state)
                    told = custody_judged(book, start, custody, tellers, asked, state, ("told", log))
                    self.assertEqual(told, "told" if wanted else None)
                    said[told] = said.get(told, 0) + 1
        self.assertGreater(min(said.values()), 500)
