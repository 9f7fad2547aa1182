"""8.1 to 8.3, 8.5: what machines want and lack, closed ones, the least one, grown ones, what two have."""

from tests.plainrules import (
    all_pairs, all_ties, closed_machines, facts_in, machine_with, plain_closed, plain_leads, plain_roots, plain_rows,
    plain_wants,
)
from tests.samples import all_permits, some_book, some_start
from tests.tools import Dice, Hostile, Odd, WrapCase, as_lists, as_tuples, empties, odd_things, ring
from underwraps.books import Book
from underwraps.errors import BadMachine, BadSecond
from underwraps.leading import leads_to, pairs_of
from underwraps.machines import grown, is_closed, least_machine, machine_lack, machine_wants, machines_met

PERMITS = [("make", "a"), ("make", "d"), ("open", "a"), ("wrap", "a", "d")]
BOOK = Book(["a", "d"], [], PERMITS)
LEAST = ([("d", "known")], [("a", "a"), ("d", "d"), ("d", "known"), ("known", "d"), ("known", "known")])
BARE = Book([], [], [])
ALL = (all_ties(BOOK), all_pairs(BOOK))

NO_MACHINES = odd_things() + [
    [], [[]], [[], [], []], ([],), ([("a", "a")], []), ([("a", "d"), ("a", "d")], []), ([("a", "d"), ["a", "d"]], []),
    ([], [("a", "a"), ("a", "a")]), ([], [("a", "d"), ["a", "d"]]), ([("a", "x")], []), ([], [("a", "x")]),
    ([("a",)], []), ([], [("a", "d", "d")]), ([None], []), ([], [None]), ("", ""), ([], ""), ("", []), ([], {}),
    ({}, []), (set(), []), {0: [], 1: []}, ([Hostile()], []), ([], [Hostile()]), (Hostile(), []), ([], Hostile()),
    ([("a", Hostile())], []), ([], [(Hostile(), "a")]), ([("a", "known"), ("a", 0)], []), ([], [("a", True)]),
    ([], ["aa"]), (["ad"], []), ([], None), (ring(), []), ([], ring()), ([("a", ["d"])], []), [[["a", "d"]], [[]]],
    {"ties": [], "pairs": []}, Odd(),
]


def some_small(dice, roles):
    """Return (book, start) of so many roles, with about one of two to four permits."""
    labels = ["x", "y"][:dice.number(3)]
    return some_book(dice, ["a", "b", "c"][:roles], labels, 2 + dice.number(4)), some_start(dice, ["a", "b", "c"][:roles], 2)


def some_machine(dice, book):
    share = 2 + dice.number(4)
    return tuple([dice.mixed([pair for pair in some if dice.number(share) == 0]) for some in (all_ties(book), all_pairs(book))])


class TestExample(WrapCase):
    def test_8_5(self):
        self.assertEqual(least_machine(BOOK, []), LEAST)
        self.assertEqual(machine_lack(BOOK, [], ([], [])), ("pair", "a", "a"))
        self.assertEqual(machine_lack(BOOK, [], ([], LEAST[1])), ("tie", "d", "known"))
        more = Book(["a", "d"], [], PERMITS + [("unwrap", "a", "a")])
        self.assertEqual(least_machine(more, [])[0], [("d", "a"), ("d", "known"), ("known", "a")])


class TestWants(WrapCase):
    def wanted(self, permits, pairs, start=(), ties=()):
        """Return the ties, and the pairs, that a machine wants by permits of roles a, b, c, d."""
        return machine_wants(Book(["a", "b", "c", "d"], ["x"], permits), start, (ties, pairs))

    def test_starts(self):
        self.assertEqual(machine_wants(BARE, [], ([], [])), ([], [("known", "known")]))
        self.assertEqual(machine_wants(BARE, [[]], ([], [])), ([], [("known", "known")]))
        self.assertEqual(machine_wants(BOOK, [["a", "d"], ["a"]], ([], []))[1], [
            ("a", "a"), ("a", "d"), ("d", "a"), ("d", "d"), ("known", "known"),
        ])
        self.assertEqual(self.wanted([("make", "c")], [])[1], [("c", "c"), ("known", "known")])

    def test_what_it_has_is_not_wanted_for_that(self):
        self.assertEqual(machine_wants(BOOK, [], ([("a", "d")], [("a", "d")]))[1], [
            ("a", "a"), ("d", "d"), ("known", "known"),
        ])
        self.assertEqual(machine_wants(BARE, [], ([], [("known", "known")])), ([], [("known", "known")]))

    def test_permits(self):
        self.assertEqual(self.wanted([("copy", "a", "b"), ("copy", "c", "c"), ("bring", "d"), ("show", "b")], [])[0], [
            ("a", "b"), ("b", "known"), ("known", "d"),
        ])

    def test_moves(self):
        permits = [("derive", "a", "x", "b"), ("derive", "a", "x", "c"), ("derive", "b", "x", "d")]
        for pair, told in [
            (("a", "b"), [("b", "d"), ("c", "d")]), (("b", "a"), [("d", "b"), ("d", "c")]), (("a", "c"), []),
            (("a", "a"), [("b", "b"), ("b", "c"), ("c", "b"), ("c", "c")]), (("b", "known"), [("d", "known")]),
        ]:
            self.assertEqual(self.wanted(permits, [pair])[1], sorted(told + [("known", "known")]))
        book = Book(["a", "b"], ["x", "y"], [("derive", "a", "x", "a"), ("derive", "b", "y", "b")])
        self.assertEqual(machine_wants(book, [], ([], [("a", "b")]))[1], [("known", "known")])

    def test_ties(self):
        told = self.wanted([], [("a", "b"), ("c", "c")], ties=[("b", "d"), ("a", "c"), ("known", "a")])
        self.assertEqual(told, ([], [("a", "d"), ("c", "b"), ("known", "known")]))

    def test_wrapped_and_opened(self):
        wrap, open_, unwrap = ("wrap", "b", "d"), ("open", "a"), ("unwrap", "a", "c")
        self.assertEqual(self.wanted([wrap], [("known", "b")])[0], [("d", "known")])
        self.assertEqual(self.wanted([wrap], [("a", "b"), ("b", "known"), ("b", "b")])[0], [])
        self.assertEqual(self.wanted([wrap, open_], [("a", "b")])[0], [("d", "known")])
        self.assertEqual(self.wanted([wrap, open_], [("b", "a")])[0], [])
        self.assertEqual(self.wanted([wrap, unwrap], [("a", "b")])[0], [("d", "c")])
        self.assertEqual(self.wanted([wrap, unwrap], [("b", "a")])[0], [])
        self.assertEqual(self.wanted([wrap, unwrap, open_], [("a", "b")])[0], [("d", "c"), ("d", "known")])
        self.assertEqual(self.wanted([("wrap", "b", "c"), unwrap], [("a", "b")])[0], [])

    def test_sealed_and_unwrapped(self):
        seal, unwrap = ("seal", "b"), ("unwrap", "a", "c")
        self.assertEqual(self.wanted([unwrap], [("a", "known")])[0], [("known", "c")])
        self.assertEqual(self.wanted([unwrap], [("a", "b"), ("a", "a"), ("known", "a")])[0], [])
        self.assertEqual(self.wanted([unwrap, seal], [("a", "b")])[0], [("known", "c")])
        self.assertEqual(self.wanted([unwrap, seal], [("b", "a")])[0], [])
        self.assertEqual(self.wanted([unwrap, seal, ("open", "a")], [("a", "b"), ("known", "known")])[0], [("known", "c")])

    def test_as_a_plain_reading(self):
        sizes = {}
        for count in range(150):
            dice = Dice(count)
            book, start = some_small(dice, dice.number(4))
            for _ in range(6):
                ties, pairs = some_machine(dice, book)
                wanted = [sorted(some) for some in plain_wants(book, start, ties, pairs)]
                self.assertEqual(machine_wants(book, start, (ties, pairs)), tuple(wanted))
                sizes[len(wanted[0])] = True
                rows = plain_rows(book, start, [("tie", *tie) for tie in ties] + [("pair", *pair) for pair in pairs])
                self.assertEqual(machine_with({says for _, says, _ in rows}), tuple(wanted))
                lacks = [("pair", *pair) for pair in wanted[1] if pair not in pairs]
                lacks += [("tie", *tie) for tie in wanted[0] if tie not in ties]
                self.assertEqual(machine_lack(book, start, (ties, pairs)), (lacks + [None])[0])
                self.says(not lacks, is_closed(book, start, [ties, pairs]))
        self.assertGreater(len(sizes), 6)


class TestClosed(WrapCase):
    def test_ordinary(self):
        for machine in [LEAST, ALL, (LEAST[0], LEAST[1][::-1]), as_lists(LEAST), as_tuples(LEAST)]:
            self.assertIsNone(machine_lack(BOOK, [], machine))
            self.says(True, is_closed(thing=machine, start=(), book=BOOK))
        for machine in [([], []), (LEAST[0], LEAST[1][1:]), ([("d", "known"), ("known", "a")], LEAST[1])]:
            self.assertIsNotNone(machine_lack(machine=machine, start=(), book=BOOK))
            self.says(False, is_closed(BOOK, [], machine))
        self.says(False, is_closed(BOOK, [["a", "d"]], LEAST))
        self.says(True, is_closed(BARE, [], ([], [("known", "known")])))
        self.says(False, is_closed(BARE, [], ([], [])))

    def test_no_machine(self):
        for thing in NO_MACHINES:
            self.says(False, is_closed(BOOK, [], thing))
            for call in (machine_wants, machine_lack, grown):
                self.raises(BadMachine, thing, call, BOOK, [], thing)
            self.raises(BadMachine, thing, machines_met, BOOK, thing, None)
            self.raises(BadSecond, thing, machines_met, BOOK, ([], []), thing)
        for thing in empties():
            self.says(False, is_closed(BOOK, [], thing))

    def test_a_pair_ahead_of_a_tie(self):
        self.assertEqual(machine_lack(BOOK, [], ([], LEAST[1][:-1])), ("pair", "known", "known"))
        self.assertEqual(machine_lack(BOOK, [], (LEAST[0], LEAST[1][:2] + LEAST[1][3:])), ("pair", "d", "known"))


class TestLeast(WrapCase):
    def test_edges(self):
        self.assertEqual(least_machine(BARE, []), ([], [("known", "known")]))
        self.assertEqual(least_machine(start=((), ()), book=BARE), ([], [("known", "known")]))
        wrapping = Book(["a"], ["x"], [("wrap", "a", "a"), ("unwrap", "a", "a"), ("seal", "a"), ("open", "a")])
        self.assertEqual(least_machine(wrapping, []), ([], [("known", "known")]))
        self.assertEqual(least_machine(wrapping, [["a"]])[0], [("a", "known"), ("known", "a")])
        self.assertEqual(least_machine(Book(["a"], ["x"], [("derive", "a", "x", "a")]), [["a"]])[1], [
            ("a", "a"), ("known", "known"),
        ])

    def test_by_a_search_for_the_least_closed_one(self):
        ties = {}
        for count in range(130):
            dice = Dice(count)
            book, start = some_small(dice, 1 if count % 13 else 2)
            closed = closed_machines(book, start)
            least = least_machine(book, start)
            self.assertIn(facts_in(least), closed)
            self.assertEqual(machine_with(set.intersection(*closed)), least)
            ties[len(least[0])] = ties.get(len(least[0]), 0) + 1
            for _ in range(10):
                machine = some_machine(dice, book)
                facts = facts_in(machine)
                with_it = [other for other in closed if facts <= other]
                self.assertEqual(grown(book, start, machine), machine_with(set.intersection(*with_it)))
                self.says(facts in closed, is_closed(book, start, machine))
                one, other = [machine_with(dice.one(closed)) for _ in range(2)]
                met = machines_met(book, one, other)
                self.assertEqual(met, machine_with(facts_in(one) & facts_in(other)))
                self.says(True, is_closed(book, start, met))
        self.assertGreater(len(ties), 3)

    def test_8_2(self):
        for count in range(120):
            dice = Dice(count)
            book, start = some_small(dice, 1 + dice.number(3))
            ties, pairs = least_machine(book, start)
            self.assertTrue(plain_closed(book, start, ties, pairs))
            self.assertEqual(pairs_of(book, start, ties), pairs)
            self.assertEqual(machine_wants(book, start, (ties, pairs)), (ties, pairs))
            roles, labels = book.all_roles(), book.all_labels()
            permits = sorted(set(book.all_permits() + dice.some(all_permits(roles, labels), 3)))
            wider = [sorted(set(row + dice.part(roles))) for row in start] + [dice.part(roles)]
            for other, more in [(Book(roles, labels, permits), start), (book, wider)]:
                self.assertLessEqual(facts_in((ties, pairs)), facts_in(least_machine(other, more)))

    def test_called_otherwise(self):
        other = Book(["z", "known0"], [], [("make", "z"), ("make", "known0"), ("open", "z"), ("wrap", "z", "known0")])
        self.assertEqual(least_machine(other, [])[0], [("known0", "known")])


class TestGrown(WrapCase):
    def test_8_3(self):
        for count in range(100):
            dice = Dice(count)
            book, start = some_small(dice, 1 + dice.number(3))
            one = some_machine(dice, book)
            more = grown(book, start, one)
            self.says(True, is_closed(book, start, more))
            self.assertEqual(grown(book, start, more), more)
            self.assertEqual(grown(book, start, ([], [])), least_machine(book, start))
            less = tuple([dice.part(some) for some in one])
            self.assertLessEqual(facts_in(grown(book, start, less)), facts_in(more))
            self.assertLessEqual(facts_in(one), facts_in(more))
            other = grown(book, start, some_machine(dice, book))
            self.says(True, is_closed(book, start, machines_met(book, more, other)))

    def test_ordinary(self):
        self.assertEqual(grown(BOOK, [], ALL), ALL)
        self.assertEqual(grown(machine=[(), ()], start=(), book=BOOK), LEAST)
        ties, pairs = grown(BOOK, [], ([("known", "a")], []))
        self.assertEqual(ties, [("d", "known"), ("known", "a")])
        self.assertEqual(pairs, [(p, q) for p, q in all_pairs(BOOK)])
        self.assertEqual(grown(BARE, [], ([], [])), ([], [("known", "known")]))


class TestMet(WrapCase):
    def test_ordinary(self):
        one = ([("a", "d"), ("known", "a")], [("d", "d"), ("a", "known"), ("a", "a")])
        other = ([["known", "a"], ["d", "a"]], [["a", "a"], ["known", "a"], ["d", "d"]])
        for second in (other, as_tuples(other)):
            self.assertEqual(machines_met(second=second, machine=one, book=BOOK), ([("known", "a")], [("a", "a"), ("d", "d")]))
        self.assertEqual(machines_met(BOOK, one, ([], [])), ([], []))
        self.assertEqual(machines_met(BOOK, one, one), (one[0], sorted(one[1])))

    def test_pairs_are_no_ties(self):
        self.assertEqual(machines_met(BOOK, ([("a", "d")], []), ([], [("a", "d")])), ([], []))


class TestWhereItLeads(WrapCase):
    def test_more_permits_lead_further(self):
        further = 0
        for count in range(60):
            dice = Dice(count)
            book, start = some_small(dice, 2)
            ties, _ = least_machine(book, start)
            for root in plain_roots(book, start):
                asked = (root, tuple(book.all_labels()[:1]))
                led = leads_to(book, start, ties, asked)
                self.assertEqual(led, sorted(plain_leads(book, start, ties, asked)))
                further += led != leads_to(book, start, [], asked)
        self.assertGreater(further, 20)
