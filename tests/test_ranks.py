"""10.5, 10.6: ranks."""

from itertools import product

from tests.plainrules import all_asked, all_pairs, all_ties, plain_leads, plain_ranks, plain_ranks_fault
from tests.samples import some_book, some_start
from tests.tools import Dice, Hostile, Odd, WrapCase, empties, odd_things
from underwraps.books import Book
from underwraps.machines import least_machine
from underwraps.ranks import asked_rank, machine_ranks, ranks_fault

BOOK = Book(["a", "d"], [], [("make", "a"), ("make", "d"), ("wrap", "a", "d"), ("open", "a")])
BARE = Book([], [], [])
TIES = {("d", "known"): 2}
PAIRS = {("a", "a"): 1, ("d", "d"): 1, ("d", "known"): 3, ("known", "d"): 3, ("known", "known"): 1}


def some_ranked(count):
    dice = Dice(count)
    roles, labels = ["a", "b", "c"][:dice.number(4)], ["x", "y"][:dice.number(3)]
    return dice, some_book(dice, roles, labels, 2 + dice.number(4)), some_start(dice, roles, 2)


class TestExample(WrapCase):
    def test_10_6(self):
        self.assertEqual(machine_ranks(BOOK, []), (TIES, PAIRS))
        self.assertEqual(asked_rank(BOOK, [], ("d", ()), "known"), 2)
        shut = Book(["a", "d"], [], [("make", "a"), ("make", "d"), ("wrap", "a", "d")])
        self.assertIsNone(asked_rank(shut, [], ("d", ()), "known"))
        self.assertEqual(machine_ranks(shut, []), ({}, {("a", "a"): 1, ("d", "d"): 1, ("known", "known"): 1}))


class TestRanks(WrapCase):
    def test_ascending(self):
        ties, pairs = machine_ranks(start=(("a", "d"),), book=BOOK)
        self.assertIs(type(ties), dict)
        self.assertEqual((list(ties), list(pairs)), least_machine(BOOK, [["a", "d"]]))

    def test_edges(self):
        self.assertEqual(machine_ranks(BARE, [[]]), ({}, {("known", "known"): 1}))
        every = Book(["a"], ["x"], [("copy", "a", "a"), ("bring", "a"), ("show", "a"), ("derive", "a", "x", "a")])
        self.assertEqual(machine_ranks(every, []), (
            {("a", "known"): 1, ("known", "a"): 1},
            {("a", "a"): 3, ("a", "known"): 2, ("known", "a"): 2, ("known", "known"): 1},
        ))

    def test_as_a_plain_reading(self):
        most = {}
        for count in range(150):
            _, book, start = some_ranked(count)
            ties, pairs = least_machine(book, start)
            ranks = plain_ranks(book, start, [("tie", *tie) for tie in ties] + [("pair", *pair) for pair in pairs])
            told = machine_ranks(book, start)
            self.assertEqual(told, (
                {tie: ranks[("tie", *tie)] for tie in ties}, {pair: ranks[("pair", *pair)] for pair in pairs},
            ))
            self.assertEqual((list(told[0]), list(told[1])), (ties, pairs))
            most[max(ranks.values())] = True
        self.assertGreater(max(most), 6)


class TestFault(WrapCase):
    def test_right(self):
        self.assertIsNone(ranks_fault(BOOK, [], (TIES, PAIRS)))
        mixed = [dict(reversed(list(some.items()))) for some in (TIES, PAIRS)]
        self.assertIsNone(ranks_fault(thing=mixed, start=(), book=BOOK))
        self.assertEqual(ranks_fault(BOOK, [["a", "d"]], (TIES, PAIRS)), ("pair", "a", "d"))
        self.assertIsNone(ranks_fault(BARE, [], ({}, {("known", "known"): 1})))

    def test_form(self):
        for thing in odd_things() + empties() + [
            (TIES,), (TIES, PAIRS, {}), (TIES, list(PAIRS)), (list(TIES), PAIRS), ([], []), {}, {0: {}, 1: {}}, ({}, None),
            ({"da": 2}, PAIRS), ({("d",): 2}, PAIRS), ({("d", "q"): 2}, PAIRS), ({("d", 0): 2}, PAIRS), ({1: 2}, PAIRS),
            ({("d", "known", "a"): 2}, PAIRS), ({("d", "known"): 0}, PAIRS), ({("d", "known"): -1}, PAIRS),
            ({("d", "known"): True}, PAIRS), ({("d", "known"): None}, PAIRS), ({("d", "known"): "2"}, PAIRS),
            ({("d", "known"): 2.0}, PAIRS), ({("d", "known"): Hostile()}, PAIRS), ({("d", Odd()): 2}, PAIRS), ({None: 1}, {}),
            (TIES, {**PAIRS, ("a", "a"): False}), (TIES, {**PAIRS, ("a", "a"): 0}), (TIES, {**PAIRS, "aa": 1}),
            (TIES, {**PAIRS, (): 1}), (TIES, {**PAIRS, frozenset("ad"): 1}), (Hostile(), PAIRS), (TIES, Hostile()),
            ({("d", "known"): {}}, PAIRS), "ab", [TIES, {("a", "a"), ("d", "d")}],
        ]:
            self.assertEqual(ranks_fault(BOOK, [], thing), ("form", 0))

    def test_too_early_too_late_lacking_too_much(self):
        for ties, pairs, told in [
            ({}, PAIRS, ("tie", "d", "known")), ({("d", "known"): 1}, PAIRS, ("tie", "d", "known")),
            ({("d", "known"): 3}, PAIRS, ("tie", "d", "known")), ({("d", "known"): 10 ** 30}, PAIRS, ("tie", "d", "known")),
            ({**TIES, ("a", "known"): 5}, PAIRS, ("tie", "a", "known")), ({**TIES, ("d", "d"): 1}, {}, ("tie", "d", "d")),
            (TIES, {**PAIRS, ("a", "a"): 2}, ("tie", "d", "known")), (TIES, {**PAIRS, ("d", "d"): 2}, ("pair", "d", "d")),
            (TIES, {**PAIRS, ("d", "d"): 9}, ("pair", "d", "d")), (TIES, {**PAIRS, ("d", "a"): 1}, ("pair", "d", "a")),
            (TIES, {**PAIRS, ("known", "d"): 2}, ("pair", "known", "d")), (TIES, {}, ("tie", "d", "known")),
            (TIES, {**PAIRS, ("a", "known"): 7}, ("pair", "a", "known")), ({}, {}, ("pair", "a", "a")),
            (TIES, {pair: PAIRS[pair] for pair in PAIRS if pair != ("known", "known")}, ("pair", "known", "known")),
        ]:
            self.assertEqual(ranks_fault(BOOK, [], (ties, pairs)), told)

    def test_just_one_table_is_right_by_itself(self):
        found = 0
        for count in range(200):
            _, book, start = some_ranked(count)
            told = machine_ranks(book, start)
            if len(book.all_roles()) == 1 and max(list(told[0].values()) + list(told[1].values())) == 3 and found < 5:
                found += 1
                ties, pairs = all_ties(book), all_pairs(book)
                for row in product(range(5), repeat=len(ties) + len(pairs)):
                    table = (
                        {tie: rank for tie, rank in zip(ties, row) if rank},
                        {pair: rank for pair, rank in zip(pairs, row[len(ties):]) if rank},
                    )
                    self.assertEqual(ranks_fault(book, start, table) is None, table == told)
        self.assertEqual(found, 5)

    def test_as_a_plain_reading(self):
        faults = {}
        for count in range(150):
            dice, book, start = some_ranked(count)
            for many in range(5):
                ties, pairs = machine_ranks(book, start)
                for some, every in ((ties, all_pairs(book)), (pairs, all_pairs(book))):
                    for _ in range(dice.number(2 + many)):
                        pair = dice.one(every)
                        rank = dice.number(6)
                        if rank:
                            some[pair] = rank
                        else:
                            some.pop(pair, None)
                told = ranks_fault(book, start, [ties, pairs])
                self.assertEqual(told, plain_ranks_fault(book, start, ties, pairs))
                faults[told and told[0]] = faults.get(told and told[0], 0) + 1
        for word in (None, "tie", "pair"):
            self.assertGreater(faults[word], 50, word)


class TestAsked(WrapCase):
    def test_edges(self):
        every = Book(["a"], ["x"], [("bring", "a"), ("show", "a"), ("make", "a")])
        self.assertEqual(asked_rank(every, [["a"]], (0, ()), "a"), 0)
        self.assertEqual(asked_rank(every, [["a"]], (0, ()), "known"), 1)
        self.assertEqual(asked_rank(every, [], ("known", ("x",) * 10), "known"), 0)
        self.assertEqual(asked_rank(state="a", asked=["known", ["x"]], start=(), book=every), 1)
        self.assertEqual(asked_rank(every, [], ("a", ("x",)), "a"), 1)
        self.assertIsNone(asked_rank(Book(["a"], [], []), [], ("known", ()), "a"))

    def test_as_a_plain_reading(self):
        told = {}
        for count in range(80):
            _, book, start = some_ranked(count)
            ranks = machine_ranks(book, start)[0]
            for asked in all_asked(book, start, 2):
                for state in ["known"] + book.all_roles():
                    right = [
                        rank for rank in range(30)
                        if state in plain_leads(book, start, [tie for tie in ranks if ranks[tie] <= rank], asked)
                    ]
                    found = asked_rank(book, start, asked, state)
                    self.assertEqual(found, min(right, default=None))
                    told[found] = told.get(found, 0) + 1
        for rank in (None, 0, 1, 2, 3, 4):
            self.assertGreater(told[rank], 5, rank)
