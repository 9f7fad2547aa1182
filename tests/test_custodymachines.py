"""19.3, 19.4, 19.7: hulls, where asked keys lead with custodians, custody machines."""

from tests.each import NO_ASKED
from tests.plaincustody import (
    all_tellers, lots_of_states, plain_custody_lack, plain_custody_leads, plain_custody_least, plain_hull,
)
from tests.plainrules import all_asked, all_ties
from tests.samples_custody import NAMES, some_custody, some_custody_log
from tests.test_custodies import BARE, BOOK, CUSTODY, NO_CUSTODIES, NO_TELLERS, NONE, OPENS, not_empty
from tests.tools import Dice, Hostile, WrapCase, as_lists, as_tuples, empties, odd_things, ring
from underwraps.books import Book
from underwraps.custodymachines import custody_lack, custody_leads, custody_machine
from underwraps.errors import BadAsked, BadMachine, BadTies
from underwraps.leading import leads_to
from underwraps.machines import least_machine
from underwraps.bunches import bunches_of
from underwraps.refusals import BadCustody, BadTellers

LEAST = ([("k", "known")], [["a", "k", "known"], ["known"]])
NO_MACHINES = odd_things() + [
    ([],), ([], [], []), ([], None), (None, []), ("", []), ([], ""), ([], {}), ({}, []), ([], [["q"]]), ([], ["known"]), ([], [["known", "a"]]),
    ([], [["a", "a"]]), ([], [["a"], ["a"]]), ([], [["a"], ("a",)]), ([("a", "a")], []), ([("a", "q")], []), ([("a", "k"), ("a", "k")], []),
    ([("a", "k"), ["a", "k"]], []), ([], [None]), ([], [[None]]), ([], [Hostile()]), ([Hostile()], []), ([], [[Hostile()]]), (Hostile(), []),
    ([], Hostile()), ([], [[], []]), ([], [("known", "known")]), ([], ["a"]), ([("a",)], []), {0: [], 1: []}, ([], [{"a": 0}]), ([], {("a",)}),
]


class TestExample(WrapCase):
    def test_19_7(self):
        self.assertEqual(custody_machine(OPENS, [], CUSTODY, []), LEAST)
        self.assertIsNone(custody_lack(OPENS, [], CUSTODY, [], LEAST))


class TestLeads(WrapCase):
    def test_edges(self):
        self.assertEqual(custody_leads(BARE, [], NONE, [], [], ("known", ())), ["known"])
        self.assertEqual(custody_leads(BARE, [[]], NONE, [], [], (0, ())), [])
        self.assertEqual(custody_leads(BOOK, [[]], CUSTODY, NAMES, [], (0, ())), [])
        self.assertEqual(custody_leads(BOOK, [], CUSTODY, [], [], ("k", ())), ["a", "k"])
        self.assertEqual(custody_leads(BOOK, [], CUSTODY, ["ann"], [], ("k", ())), ["a", "k"])
        self.assertEqual(custody_leads(BOOK, [], CUSTODY, ["ann", "cyd"], [], ("k", ())), ["a", "k", "known"])
        self.assertEqual(custody_leads(BOOK, [], CUSTODY, ["ann", "cyd"], [], ("known", ())), ["a", "known"])
        self.assertEqual(custody_leads(BOOK, [], CUSTODY, ["ann"], [], ("known", ())), ["known"])
        self.assertEqual(custody_leads(BOOK, [["a"]], CUSTODY, NAMES, [("a", "known")], (0, ())), ["a", "known"])
        self.assertEqual(custody_leads(BOOK, [["a"]], (2, CUSTODY[1], ["k"]), ["bob", "ann"], [("a", "known")], (0, ())), ["a", "k", "known"])
        self.assertEqual(custody_leads(BOOK, [], (4, CUSTODY[1], ["a"]), NAMES, [], ("k", ())), ["k"])
        self.assertEqual(custody_leads(BOOK, [["k"]], (1, [("k", "ann")], ["a"]), [], [], (0, ())), ["a", "k"])

    def test_three_roles_of_one_key(self):
        book = Book(["a", "b", "c", "d"], ["x"], [("derive", "a", "x", "b"), ("derive", "b", "x", "c"), ("derive", "d", "x", "a")])
        custody = (3, [("a", "ann"), ("b", "bob"), ("c", "cyd")], ["d"])
        self.assertEqual(custody_leads(book, [["a", "b", "c"]], custody, [], [], (0, ())), ["a", "b", "c", "d"])
        self.assertEqual(custody_leads(book, [["a", "b", "c"]], custody, NAMES, [], (0, ())), ["a", "b", "c", "d", "known"])
        self.assertEqual(custody_leads(book, [["a", "b", "c"]], custody, [], [], (0, ("x",))), ["a", "b", "c", "d"])
        for firsts in (["a", "b"], ["b", "c"], ["a", "c"]):
            self.assertEqual(custody_leads(book, [firsts], custody, NAMES, [], (0, ())), firsts)

    def test_forms(self):
        for shape in (as_lists, as_tuples):
            told = custody_leads(
                asked=shape(("k", ())), ties=shape([("k", "known")]), tellers=shape(["ann"]), custody=shape(CUSTODY), start=shape([["a"]]), book=BOOK)
            self.assertEqual(repr(told), "['a', 'k', 'known']")
            machine = custody_machine(tellers=shape(["bob"]), custody=shape(CUSTODY), start=shape([]), book=OPENS)
            self.assertEqual(repr(machine), repr(LEAST))
            self.assertIsNone(custody_lack(machine=shape(LEAST), tellers=shape([]), custody=shape(CUSTODY), start=shape([]), book=OPENS))
            self.assertEqual(repr(custody_lack(OPENS, [], CUSTODY, [], shape(([], [])))), "('bunch', ['a', 'k'])")

    def test_wrong(self):
        for call, more in ((custody_leads, 2), (custody_lack, 1), (custody_machine, 0)):
            for thing in NO_CUSTODIES:
                self.raises(BadCustody, thing, call, BOOK, [], thing, *[Hostile()] * (more + 1))
            for thing in not_empty(NO_TELLERS):
                self.raises(BadTellers, thing, call, BOOK, [], CUSTODY, thing, *[Hostile()] * more)
        for thing in [None, "ab", 0, {}, Hostile(), iter([])]:
            self.raises(BadTies, 0, custody_leads, BOOK, [], CUSTODY, [], thing, Hostile())
        for thing in odd_things() + [("a", "a"), ("a", "q"), ("a", "k")]:
            self.raises(BadTies, 1, custody_leads, BOOK, [], CUSTODY, [], [("a", "k"), thing, None], Hostile())
        for thing in NO_ASKED + [("a", ())]:
            self.raises(BadAsked, thing, custody_leads, BOOK, [], CUSTODY, [], [], thing)
        for thing in NO_MACHINES + [ring()]:
            self.raises(BadMachine, thing, custody_lack, BOOK, [], CUSTODY, [], thing)
        for thing in empties():
            if len(thing) != 2:
                self.raises(BadMachine, thing, custody_lack, BOOK, [], CUSTODY, [], thing)

    def test_19_3(self):
        said, sizes = {True: 0, False: 0}, {}
        for count in range(200):
            dice, book, start, custody, tellers = some_custody(count)
            ties = [tie for tie in all_ties(book) if dice.number(4) == 0]
            for asked in all_asked(book, start, 2):
                led = plain_custody_leads(book, start, custody, tellers, ties, asked)
                self.assertEqual(custody_leads(book, start, custody, tellers, dice.mixed(ties), asked), sorted(led))
                more = led != set(leads_to(book, start, ties, asked))
                said[more] += 1
            # The hull is the least shut list.
            for states in lots_of_states(book):
                hull = plain_hull(custody, tellers, ties, states)
                shut = [lot for lot in lots_of_states(book) if plain_hull(custody, tellers, ties, lot) == set(lot) and set(states) <= set(lot)]
                self.assertTrue(hull in [set(lot) for lot in shut] and all([hull <= set(lot) for lot in shut]))
                sizes[len(hull) - len(states)] = sizes.get(len(hull) - len(states), 0) + 1
            self.assertEqual(custody_leads(book, start, custody, tellers, ties, ("known", ())), sorted(plain_hull(custody, tellers, ties, ["known"])))
        self.assertGreater(min(said.values()), 300)
        self.assertGreater(len(sizes), 3)


class TestMachines(WrapCase):
    def test_edges(self):
        self.assertEqual(custody_machine(BARE, [], NONE, []), ([], [["known"]]))
        self.assertEqual(custody_machine(BARE, [[]], NONE, []), ([], [[], ["known"]]))
        self.assertEqual(custody_machine(Book([], ["x"], []), [], NONE, []), ([], [["known"]]))
        self.assertEqual(custody_machine(Book(["a"], ["x"], []), [["a"]], (1, [("a", "z")], []), ["z"])[1], [["a", "known"], ["known"]])
        self.assertEqual(custody_machine(Book(["a"], ["x"], []), [["a"]], (1, [("a", "z")], []), [])[1], [[], ["a"], ["known"]])
        self.assertEqual(custody_lack(BARE, [], NONE, [], ([], [])), ("bunch", ["known"]))
        self.assertEqual(custody_lack(BARE, [[]], NONE, [], ((), ())), ("bunch", []))
        self.assertEqual(custody_lack(OPENS, [], CUSTODY, [], ([], [["known"], ["a", "k"]])), ("tie", "k", "known"))
        self.assertEqual(custody_lack(OPENS, [], CUSTODY, [], (LEAST[0], [["known"], ["a", "k"]])), ("bunch", ["a", "k", "known"]))
        self.assertIsNone(custody_lack(OPENS, [], CUSTODY, [], (LEAST[0], [["known"], [], ["a", "k", "known"], ["a"]])))
        self.assertIsNone(custody_lack(OPENS, [], CUSTODY, [], ([("k", "known"), ("known", "a"), ("known", "k")], [["a", "k", "known"]])))

    def test_without_parts_and_joins(self):
        for count in range(100):
            _, book, start, _, _ = some_custody(count)
            ties, bunches = custody_machine(book, start, (1 + count % 2, [], []), [])
            self.assertEqual(ties, least_machine(book, start)[0])
            self.assertEqual(bunches, bunches_of(book, start, ties))

    def test_19_4_just_one(self):
        grown = most = 0
        for count in range(400):
            dice, book, start, custody, tellers = some_custody(count, 3 + count % 4)
            told = custody_machine(book, start, dice.one([custody, as_lists(custody)]), dice.mixed(tellers))
            self.assertEqual(told, plain_custody_least(book, start, custody, tellers))
            self.assertIsNone(custody_lack(book, start, custody, tellers, (dice.mixed(told[0]), dice.mixed(told[1]))))
            self.assertEqual(told[1], sorted(told[1]))
            grown += told[0] != least_machine(book, start)[0]
            most = max(most, len(told[1]))
            # Each closed one has its ties.
            ties = [tie for tie in all_ties(book) if dice.number(3)]
            bunches = [states for states in lots_of_states(book) if dice.number(3)]
            lack = custody_lack(book, start, custody, tellers, (ties, bunches))
            self.assertEqual(lack, plain_custody_lack(book, start, custody, tellers, (ties, bunches)))
            self.assertTrue(lack is not None or set(told[0]) <= set(ties))
        self.assertGreater(grown, 30)
        self.assertGreater(most, 3)

    def test_19_4_lacks(self):
        said = {}
        for count in range(220):
            dice, book, start, custody, tellers = some_custody(count)
            ties, bunches = custody_machine(book, start, custody, tellers)
            for _ in range(5):
                some = [tie for tie in ties if dice.number(6)] + [tie for tie in all_ties(book) if tie not in ties and dice.number(6) == 0]
                lots = [bunch for bunch in bunches if dice.number(6)] + [lot for lot in lots_of_states(book) if lot not in bunches and dice.number(12) == 0]
                machine = (dice.mixed(some), dice.mixed(lots))
                lack = plain_custody_lack(book, start, custody, tellers, machine)
                self.assertEqual(custody_lack(book, start, custody, tellers, machine), lack)
                said[lack and lack[0]] = said.get(lack and lack[0], 0) + 1
        for word in (None, "bunch", "tie"):
            self.assertGreater(said[word], 60, word)

    def test_what_logs_come_to(self):
        """Behind each custody log each key is within what the machine leads it to."""
        looked = 0
        for count in range(160):
            dice, book, start, custody, _ = some_custody(count)
            tellers = dice.one(all_tellers(custody))
            ties, _ = custody_machine(book, start, custody, tellers)
            log, house = some_custody_log(Dice(count), book, start, custody, tellers, 14)
            made = [call[1] for call in log if call[0] == "make"]
            for key, role in house.handles:
                (word, number), labels = key
                root = number if word == "given" else made[number] if word == "made" else "known"
                self.assertIn(role, custody_leads(book, start, custody, tellers, ties, (root, labels)))
                looked += 1
        self.assertGreater(looked, 800)

    def test_told_new(self):
        for _ in range(2):
            told = custody_machine(OPENS, [], CUSTODY, [])
            self.assertEqual(told, LEAST)
            told[1][0].clear()
            told[0].clear()
            lack = custody_lack(BARE, [], NONE, [], ([], []))
            lack[1].clear()
