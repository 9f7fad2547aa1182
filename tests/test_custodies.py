"""19.1, 19.2: custodies, custodians, tellers; custody logs, their faults, what is there behind."""

from tests.plain import is_under, plain_knows
from tests.plaincustody import plain_custody_log
from tests.samples_custody import NAMES, some_custody, some_custody_call, some_custody_log
from tests.tools import Dice, Hostile, Odd, WrapCase, as_lists, as_tuples, empties, odd_things, ring
from underwraps.books import Book
from underwraps.custodies import custodians, is_custody
from underwraps.custodylogs import custody_fault, custody_played
from underwraps.errors import BadBook, BadLog, BadStart
from underwraps.logs import log_fault, played
from underwraps.refusals import BadCustody, BadTellers

BOOK = Book(["a", "k"], [], [("make", "k"), ("wrap", "k", "k")])
OPENS = Book(["a", "k"], [], BOOK.all_permits() + [("open", "a")])
CUSTODY = (2, [("k", "ann"), ("k", "bob"), ("k", "cyd")], ["a"])
NONE = (1, [], [])
BARE = Book([], [], [])
M, O = [(("made", number), ()) for number in range(4)], (("own", 0), ())
LOG = [("make", "k"), ("part", 0, "ann"), ("part", 0, "bob"), ("join", M[0], "a"), ("wrap", 0, 0), ("open", 1, ("under", M[0], M[0]))]
NO_CUSTODIES = odd_things() + empties() + [
    (0, [], []), (-1, [], []), (True, [], []), (1.0, [], []), ("1", [], []), (None, [], []), (1, [], [], []), (1, []), (1,),
    (1, [("q", "ann")], []), (1, [("known", "ann")], []), (1, [("k", "Ann")], []), (1, [("k", "")], []), (1, [("k", "abcdefghi")], []),
    (1, [("k", "1a")], []), (1, [("k", None)], []), (1, [("k",)], []), (1, [("k", "ann", "bob")], []), (1, ["ka"], []), (1, [("ann", "k")], []),
    (1, [("k", "ann"), ("k", "ann")], []), (1, [["k", "ann"], ("k", "ann")], []), (1, [], ["k", "k"]), (1, [], ["q"]), (1, [], ["known"]),
    (1, [], "a"), (1, [], "ak"), (1, "k", []), (1, {}, []), (1, [], {}), (1, {("k", "ann"): 0}, []), (1, [], {"a"}), (1, None, []), (1, [], None),
    (1, [Hostile()], []), (1, [], [Hostile()]), (Hostile(), [], []), (1, Hostile(), []), (1, [], Hostile()), (1, [(Hostile(), "ann")], []),
    (1, [("k", Hostile())], []), (1, [None], []), (1, [], [None]), (1, [], [("a",)]), {0: 1, 1: [], 2: []}, "1kk", (Odd(), [], []), [[], 1, []],
]
NO_TELLERS = odd_things() + [
    ["dan"], ["ann", "ann"], ["ann", "k"], ["Ann"], "ann", ["ann", None], ["ann", Hostile()], [["ann"]], {"ann": 1}, {"ann"}, iter(["ann"]), [("ann",)],
]


def not_empty(things):
    return [thing for thing in things if not (isinstance(thing, (list, tuple)) and len(thing) == 0)]


class TestCustodies(WrapCase):
    def test_ordinary(self):
        for custody, names in [
            (CUSTODY, ["ann", "bob", "cyd"]), (NONE, []), ((9, [], ["k", "a"]), []), ((10 ** 9, [("a", "z"), ("k", "z"), ("k", "a")], []), ["a", "z"]),
            ((1, [("k", "k"), ("a", "known"), ("k", "abcdefgh")], ["a"]), ["abcdefgh", "k", "known"]), ((1, [("k", "part"), ("k", "join")], []), ["join", "part"]),
        ]:
            for shape in (as_lists, as_tuples):
                self.says(True, is_custody(thing=shape(custody), book=BOOK))
                self.assertEqual(custodians(custody=shape(custody), book=BOOK), names)
        self.says(True, is_custody(BARE, NONE))
        self.says(True, is_custody(Book(["a", "abcdefgh"], [], []), (1, [("a", "b"), ("abcdefgh", "b")], ["abcdefgh"])))
        self.says(False, is_custody(BARE, CUSTODY))
        told = custodians(BOOK, CUSTODY)
        told.clear()
        self.assertEqual(custodians(BOOK, CUSTODY), NAMES)

    def test_wrong(self):
        for thing in NO_CUSTODIES:
            self.says(False, is_custody(BOOK, thing))
            self.raises(BadCustody, thing, custodians, BOOK, thing)
            self.raises(BadCustody, thing, custody_fault, BOOK, [], thing, Hostile(), Hostile())
            self.raises(BadCustody, thing, custody_played, BOOK, [], thing, Hostile(), Hostile())
        for thing in odd_things() + empties():
            for call, more in ((is_custody, 1), (custodians, 1), (custody_fault, 4), (custody_played, 4)):
                self.raises(BadBook, thing, call, thing, *[Hostile()] * more)
        for thing in [None, "a", {}, Hostile(), ring()]:
            self.raises(BadStart, 0, custody_fault, BOOK, thing, Hostile(), Hostile(), Hostile())

    def test_bad_tellers(self):
        for thing in not_empty(NO_TELLERS):
            self.raises(BadTellers, thing, custody_fault, BOOK, [], CUSTODY, thing, Hostile())
            self.raises(BadTellers, thing, custody_played, BOOK, [], CUSTODY, thing, Hostile())
        tellers = ["ann"]
        self.raises(BadTellers, tellers, custody_fault, BOOK, [], NONE, tellers, [])
        for tellers in ([], (), ["cyd", "ann"], ("bob",), ["bob", "ann", "cyd"]):
            self.assertIsNone(custody_fault(BOOK, [], CUSTODY, tellers, []))


class TestExample(WrapCase):
    def test_19_7(self):
        self.assertIsNone(custody_fault(OPENS, [], CUSTODY, [], LOG))
        handles, keys, holders = custody_played(OPENS, [], CUSTODY, [], LOG)
        self.assertEqual(handles, [(M[0], "k"), (M[0], "a")])
        self.assertEqual(keys, [M[0]])
        self.assertEqual(holders, {M[0]: ["ann", "bob"]})


class TestFaults(WrapCase):
    def fault(self, log, tellers=(), custody=CUSTODY, book=OPENS, start=()):
        told = custody_fault(book, start, custody, tellers, log)
        for shape in (as_lists, as_tuples):
            again = custody_fault(thing=shape(log), tellers=shape(tellers), custody=shape(custody), start=shape(start), book=book)
            self.assertEqual(repr(again), repr(told))
        if told is not None:
            self.raises(BadLog, told[0], custody_played, book, start, custody, tellers, log)
        return told

    def test_each(self):
        two = LOG[:3]
        for log, why in [
            ([], None), (two, None), (two + two[1:], None), ([("part", 0, "ann")], (0, "handle")), ([("part", 0, "zoe")], (0, "handle")),
            (LOG[:1] + [("part", 0, "zoe")], (1, "part")), (LOG[:1] + [("part", 1, "zoe")], (1, "handle")), (LOG[:1] + [("part", 10 ** 20, "ann")], (1, "handle")),
            (two[:2] + [("join", M[0], "a")], (2, "need")), (two[:2] + [("join", M[0], "k")], (2, "join")), ([("join", M[3], "k")], (0, "join")),
            ([("join", M[3], "a")], (0, "need")), ([("join", O, "a")], (0, "need")), (two + [("join", M[0], "a")] * 3, None),
            (two + [("join", M[0], "a"), ("part", 1, "ann")], (4, "part")), (LOG + [("seal", 0, M[0])], (6, "permit")), (LOG[:4] + [("open", 1, ("under", M[0], M[0]))], (4, "known")),
            (LOG[:5] + [("open", 0, ("under", M[0], M[0]))], (5, "permit")), (LOG[:5] + [("open", 2, ("under", M[0], M[0]))], (5, "handle")),
            (LOG + [("open", 1, M[0])], (6, "under")), (two[:2] * 2, None), (two[:2] + [two[1], ("join", M[0], "a")], (3, "need")),
        ]:
            self.assertEqual(self.fault(log), why)

    def test_no_calls(self):
        for thing in odd_things() + [
            ("part", 0), ("part", 0, "ann", 0), ("part", 0, "Ann"), ("part", 0, "abcdefghi"), ("part", 0, ""), ("part", True, "ann"), ("part", -1, "ann"),
            ("part", "0", "ann"), ("part", 0, None), ("part", 0, Hostile()), ("part", Hostile(), "ann"), ("part", 0, ("ann",)), ("join", M[0]),
            ("join", M[0], "a", 0), ("join", M[0], "q"), ("join", M[0], "known"), ("join", ("made", 0), "a"), ("join", ("under", M[0], M[0]), "a"),
            ("join", (("made", 0), ("x",)), "a"), ("join", 0, "a"), ("join", Hostile(), "a"), ("join", M[0], Hostile()), ("Part", 0, "ann"), "part", ["join"],
        ]:
            self.assertEqual(custody_fault(OPENS, [], CUSTODY, [], LOG[:3] + [thing, None]), (3, "call"))
            self.assertEqual(custody_fault(OPENS, [], CUSTODY, [], [thing]), (0, "call"))
        for thing in [None, "part", "", 0, True, {}, {0: LOG[0]}, Odd(), Hostile(), iter(LOG), {LOG[0]}]:
            self.assertEqual(custody_fault(OPENS, [], CUSTODY, [], thing), (0, "list"))
            self.raises(BadLog, 0, custody_played, OPENS, [], CUSTODY, [], thing)
        # Roles and labels of the book, whatever its permits.
        self.assertEqual(custody_fault(BARE, [], NONE, [], [("part", 0, "ann")]), (0, "handle"))
        self.assertEqual(custody_fault(BARE, [], NONE, [], [("join", O, "a")]), (0, "call"))

    def test_who_holds(self):
        book = Book(["a", "k"], ["x"], [("make", "k"), ("wrap", "k", "k"), ("derive", "k", "x", "k"), ("show", "k")])
        made, parts = [("make", "k")], [("part", 0, "ann"), ("part", 0, "bob")]
        for log, tellers, why in [
            # As soon as two tellers have a part of it, the user knows it.
            (made + parts, ["ann", "bob"], [M[0]]), (made + parts, ["ann"], []), (made + parts[:1] * 2, ["ann", "bob"], []),
            (made + [("show", 0)], [], [M[0]]), (made + [("show", 0), ("join", M[0], "a")], ["cyd", "bob"], [M[0]]),
            (made + [("derive", 0, "x", "k"), ("part", 1, "ann"), ("part", 1, "bob")], ["ann", "bob"], [(("made", 0), ("x",))]),
            ([("join", O, "a")], ["ann", "cyd"], []), ([("join", (("own", 5), ("x", "x")), "a")], ["ann", "cyd", "bob"], []),
            (made + parts + [("join", (("made", 0), ("x",)), "a")], ["ann", "bob"], [M[0]]),
            (made + parts[:1] + [("show", 0), ("join", M[0], "a")], ["cyd"], [M[0]]),
        ]:
            self.assertIsNone(self.fault(log, tellers, CUSTODY, book))
            self.assertEqual(custody_played(book, [], CUSTODY, tellers, log)[1], why)
        for log, tellers, why in [
            (made + [("show", 0), ("join", M[0], "a")], ["cyd"], "need"), ([("join", O, "a")], ["ann"], "need"),
            (made + parts[:1] + [("show", 0), ("join", M[0], "a")], ["ann"], "need"), (made + parts + [("join", (("made", 0), ("x",)), "a")], [], "need"),
            (made + parts[:1] + [("join", M[0], "a")], ["bob", "cyd"], "need"),
        ]:
            self.assertEqual(self.fault(log, tellers, CUSTODY, book), (len(log) - 1, why))

    def test_need(self):
        one = (1, [("k", "ann")], ["a"])
        self.assertEqual(custody_played(BOOK, [["k"]], one, ["ann"], [("part", 0, "ann")])[1], [(("given", 0), ())])
        self.assertIsNone(self.fault([("join", O, "a")], ["ann"], one))
        self.assertEqual(self.fault([("join", O, "a")], [], one), (0, "need"))
        many = (4, CUSTODY[1], ["a"])
        log = [("make", "k")] + [("part", 0, name) for name in NAMES]
        self.assertEqual(custody_played(BOOK, [], many, NAMES, log), ([(M[0], "k")], [], {M[0]: NAMES}))
        self.assertEqual(self.fault(log + [("join", M[0], "a")], NAMES, many), (4, "need"))

    def test_three_roles_bring_three_parts_together(self):
        book = Book(["a", "b", "c", "d"], [], [])
        custody = (3, [("a", "ann"), ("b", "bob"), ("c", "cyd")], ["d"])
        log = [("part", 0, "ann"), ("part", 1, "bob"), ("part", 2, "cyd"), ("join", (("given", 0), ()), "d")]
        self.assertIsNone(self.fault(log, [], custody, book, [["a", "b", "c"]]))
        self.assertEqual(self.fault(log, [], custody, book, [["a", "b"], ["c"]]), (3, "need"))
        self.assertEqual(custody_played(book, [["a", "b", "c"]], custody, NAMES, log[:3])[1], [(("given", 0), ())])


class TestPlayed(WrapCase):
    def test_told_new_and_in_order(self):
        book = Book(["k"], ["x"], [("make", "k"), ("derive", "k", "x", "k")])
        custody = (2, [("k", "bob"), ("k", "ann")], [])
        log = [("make", "k"), ("make", "k"), ("derive", 1, "x", "k"), ("part", 2, "bob"), ("part", 2, "ann"), ("part", 1, "bob"), ("part", 0, "ann"), ("part", 0, "ann")]
        told = custody_played(book, [["k"]], custody, ["ann", "bob"], log)
        self.assertEqual(repr(told), (
            "([((('given', 0), ()), 'k'), ((('made', 0), ()), 'k'), ((('made', 1), ()), 'k'), ((('made', 0), ('x',)), 'k')], "
            "[(('made', 1), ())], {(('given', 0), ()): ['ann'], (('made', 0), ()): ['bob'], (('made', 1), ()): ['ann', 'bob']})"
        ))
        for part in (told[0], told[1], told[2], told[2][M[1]]):
            part.clear()
        self.assertEqual(len(custody_played(book, [["k"]], custody, ["ann", "bob"], log)[2]), 3)
        self.assertEqual(custody_played(BARE, [[]], NONE, [], []), ([], [], {}))

    def test_without_parts_and_joins(self):
        for count in range(60):
            _, book, start, _, _ = some_custody(count)
            log, _ = some_custody_log(Dice(count + 500), book, start, NONE, [], 12)
            self.assertIsNone(log_fault(book, start, log))
            handles, keys, holders = custody_played(book, start, NONE, [], log)
            self.assertEqual((handles, holders), (played(book, start, log).handles(), {}))

    def test_as_a_plain_reading(self):
        said, known, joined = {}, 0, 0
        for count in range(400):
            dice, book, start, custody, tellers = some_custody(count)
            log, house = some_custody_log(dice, book, start, custody, tellers, 14)
            self.assertIsNone(custody_fault(book, start, custody, tellers, log))
            handles, keys, holders = custody_played(book, start, custody, tellers, log)
            self.assertEqual(handles, house.handles)
            self.assertEqual(list(holders.items()), list(house.holders().items()))
            every = {key for key, _ in house.handles} | {thing for thing in house.out if not is_under(thing)}
            for key in every:
                wanted = plain_knows(house.out, key)
                behind = any([key[0] == base and key[1][:len(word)] == word for base, word in keys])
                self.assertEqual(wanted, behind or key[0][0] == "own")
            for key in keys:
                self.assertTrue(plain_knows(house.out, key) and key[0][0] != "own")
                self.assertFalse(key[1] and plain_knows(house.out, (key[0], key[1][:-1])))
            self.assertEqual(keys, sorted(keys))
            known, joined = known + len(keys), joined + len([call for call in log if call[0] == "join"])
            for _ in range(6):
                at = dice.number(len(log) + 1)
                broken = log[:at] + [some_custody_call(dice, book, house, custody)] + log[at + dice.number(2):]
                _, fault = plain_custody_log(book.all_permits(), start, custody, tellers, broken)
                self.assertEqual(custody_fault(book, start, custody, tellers, broken), fault)
                said[fault and fault[1]] = said.get(fault and fault[1], 0) + 1
        for why in (None, "handle", "permit", "known", "under", "part", "join", "need"):
            self.assertGreater(said[why], 5, why)
        self.assertGreater(min(known, joined), 30)
