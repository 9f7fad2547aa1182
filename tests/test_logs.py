"""6: logs, what they tell, led over, thinned, one behind another, rounds."""

from itertools import product

from tests.plain import HANDLES, led_log, makes_handle, plain_knows, plain_log
from tests.samples import some_case
from tests.tools import Dice, Hostile, Odd, WrapCase, as_lists, as_tuples, empties, odd_things
from underwraps.books import Book
from underwraps.errors import BadBehind, BadBook, BadIndex, BadKey, BadLog, BadStart, Untold
from underwraps.houses import House
from underwraps.logs import (
    in_rounds, left_out, log_answers, log_behind, log_fault, log_rounds, log_tells, permits_used, played, thinned_log,
)

BOOK = Book(["a", "d"], [], [("make", "a"), ("make", "d"), ("open", "a"), ("wrap", "a", "d")])
G, O = (("given", 0), ()), (("own", 0), ())
M = [(("made", number), ()) for number in range(9)]
C = ("under", M[1], M[2])
LOG = [("make", "d"), ("make", "a"), ("make", "d"), ("wrap", 1, 2), ("open", 1, C)]
THIN = [("make", "a"), ("make", "d"), ("wrap", 0, 1), ("open", 0, ("under", M[0], M[1]))]

WIDE = Book(["a", "b"], ["x"], [
    ("make", "a"), ("bring", "a"), ("show", "b"), ("copy", "a", "b"), ("derive", "a", "x", "b"), ("wrap", "a", "b"),
    ("unwrap", "a", "b"), ("seal", "a"), ("open", "a"),
])
START = [["a"]]

# Each of these asks for a book, a start and a log, some for one thing more.
OF_LOGS = [
    (played, []), (log_answers, []), (log_tells, [None]), (permits_used, []), (left_out, [None]), (thinned_log, [None]),
    (log_behind, [None]), (log_rounds, []), (in_rounds, []),
]


class TestExample(WrapCase):
    def test_6_7(self):
        self.assertIsNone(log_fault(BOOK, [], LOG))
        self.assertEqual(log_answers(BOOK, [], LOG), [0, 1, 2, C, (("made", 2), ())])
        self.assertEqual(log_rounds(BOOK, [], LOG), [1, 1, 1, 2, 3])
        self.assertEqual(thinned_log(BOOK, [], LOG, (("made", 2), ())), (THIN, (("made", 1), ())))
        self.assertIsNone(left_out(BOOK, [], LOG, 1))
        self.assertEqual(left_out(BOOK, [], LOG, 0), THIN)
        self.assertEqual(permits_used(BOOK, [], LOG), [("make", "a"), ("make", "d"), ("open", "a"), ("wrap", "a", "d")])


class TestErrors(WrapCase):
    def test_book_start_log(self):
        for call, more in OF_LOGS:
            for thing in odd_things():
                self.raises(BadBook, thing, call, thing, None, None, *more)
            for start in [None, "a", {}, {("a",)}, 1, Hostile()]:
                self.raises(BadStart, 0, call, BOOK, start, None, *more)
            self.raises(BadStart, 1, call, BOOK, [["a"], ["d", "a"], None], None, *more)
            for log in [None, "make", {("make", "a")}, {("make", "a"): 0}, 0, Hostile(), iter(LOG)]:
                self.raises(BadLog, 0, call, BOOK, [], log, *more)
            for thing in odd_things() + empties():
                self.raises(BadLog, 2, call, BOOK, [], LOG[:2] + [thing] + LOG[3:], *more)
            self.raises(BadLog, 1, call, BOOK, [], [("make", "d"), ("wrap", 0, 0), None], *more)

    def test_fault_of_book_and_start(self):
        for thing in odd_things():
            self.raises(BadBook, thing, log_fault, thing, None, None)
        self.raises(BadStart, 0, log_fault, BOOK, None, None)
        self.raises(BadStart, 1, log_fault, BOOK, [[], ["known"]], LOG)

    def test_bad_key(self):
        for thing in odd_things() + empties() + [C, (("made", 0), ("x",)), (("made", True), ())]:
            self.raises(BadKey, thing, log_tells, BOOK, [], LOG, thing)
            self.raises(BadKey, thing, thinned_log, BOOK, [], LOG, thing)

    def test_untold(self):
        for key in [M[0], M[1], M[3], G, [["made", 0], []], (("made", 10 ** 20), ())]:
            self.raises(Untold, key, thinned_log, BOOK, [], LOG, key)
        self.raises(Untold, M[0], thinned_log, BOOK, [], [], M[0])

    def test_bad_index(self):
        for index in [5, -1, True, False, None, "0", 1.0, [0], 10 ** 30, Odd(), Hostile()]:
            self.raises(BadIndex, index, left_out, BOOK, [], LOG, index)
        self.raises(BadIndex, 0, left_out, BOOK, [], [], 0)

    def test_bad_behind(self):
        for other in [None, "make", {("make", "a")}, 0, Hostile()]:
            self.raises(BadBehind, 0, log_behind, BOOK, [], LOG, other)
        for thing in odd_things() + empties():
            self.raises(BadBehind, 1, log_behind, BOOK, [], LOG, [("make", "a"), thing, None])
        self.raises(BadBehind, 0, log_behind, BOOK, [], LOG, LOG[3:])
        self.raises(BadBehind, 4, log_behind, BOOK, [], LOG, LOG[:4] + [("open", 1, ("under", M[1], O))])


class TestLogFault(WrapCase):
    def test_each_why(self):
        that = ("under", G, ("under", O, O))
        for call, why in [
            (("make",), "call"), (None, "call"), (Hostile(), "call"), (("show", -1), "call"), (("show", 1), "handle"),
            (("wrap", 0, 1), "handle"), (("show", 0), "permit"), (("make", "b"), "permit"), (("bring", "a", G), "known"),
            (("seal", 0, G), "known"), (("open", 0, O), "under"), (("unwrap", 0, O, "b"), "under"),
            (("unwrap", 0, that, "b"), "inner"),
        ]:
            log = [("seal", 0, ("under", O, O)), call, None]
            self.assertEqual(log_fault(WIDE, START, log), (1, why))
            self.raises(BadLog, 1, played, WIDE, START, log)

    def test_logs(self):
        self.assertIsNone(log_fault(BOOK, [], []))
        self.assertIsNone(log_fault(BOOK, (), ()))
        self.assertIsNone(log_fault(BOOK, [], as_lists(LOG)))
        self.assertIsNone(log_fault(thing=tuple(LOG), start=[], book=BOOK))
        self.assertEqual(log_fault(BOOK, [], LOG[1:]), (2, "handle"))

    def test_any_object(self):
        for thing in odd_things() + [None, "ab", {}, {("make", "a"): 1}, {("make", "a")}, iter(LOG), ("make", "a")]:
            fault = (0, "call") if isinstance(thing, (list, tuple)) else (0, "list")
            self.assertEqual(log_fault(BOOK, [], thing), fault)
        for thing in odd_things() + empties():
            self.assertEqual(log_fault(BOOK, [], LOG + [thing]), (5, "call"))


class TestPlayed(WrapCase):
    def test_ordinary(self):
        house = House(BOOK, [])
        self.assertEqual(played(BOOK, [], []), house)
        told = [house.call(call) for call in LOG]
        self.assertEqual(played(BOOK, [], as_lists(LOG)), house)
        self.assertEqual(log_answers(log=as_lists(LOG), start=(), book=BOOK), told)
        self.assertEqual(log_answers(BOOK, [], []), [])
        played(BOOK, [], LOG).call(("make", "a"))
        self.assertEqual(played(BOOK, [], LOG), house)

    def test_told_new(self):
        log_answers(BOOK, [], LOG).clear()
        permits_used(BOOK, [], LOG).clear()
        log_rounds(BOOK, [], LOG).clear()
        log_behind(BOOK, [], LOG, LOG).clear()
        log = as_lists(LOG)
        for told in (in_rounds(BOOK, [], log), log_behind(BOOK, [], log, []), left_out(BOOK, [], log, 0)):
            told.append(1)
        self.assertEqual(log, as_lists(LOG))
        self.assertEqual(in_rounds(BOOK, [], log), LOG)
        self.assertEqual(log_behind(BOOK, [], log, log)[:5], LOG)

    def test_tells(self):
        for key, wanted in [(M[2], True), (M[0], False), (M[1], False), (M[7], False), (G, False), (O, True)]:
            self.says(wanted, log_tells(BOOK, [], LOG, key))
            self.says(wanted, log_tells(BOOK, [], as_lists(LOG), as_lists(key)))
        log = [("derive", 0, "x", "b"), ("show", 1)]
        for word, wanted in [((), False), (("x",), True), (("x", "x"), True)]:
            self.says(wanted, log_tells(WIDE, START, log, (("given", 0), word)))
        self.says(False, log_tells(key=M[0], log=[], start=[], book=BOOK))

    def test_permits_used(self):
        log = [
            ("make", "a"), ("copy", 0, "b"), ("derive", 0, "x", "b"), ("wrap", 1, 3), ("unwrap", 1, ("under", M[0], (
                ("given", 0), ("x",))), "b"), ("show", 3), ("bring", "a", O), ("seal", 0, O), ("copy", 1, "b"),
            ("open", 0, ("under", G, O)),
        ]
        self.assertEqual(permits_used(WIDE, START, log), sorted(WIDE.all_permits()))
        self.assertEqual(permits_used(WIDE, START, log[1:3]), [("copy", "a", "b"), ("derive", "a", "x", "b")])
        self.assertEqual(permits_used(WIDE, START, []), [])


class TestLeftOut(WrapCase):
    def test_ordinary(self):
        self.assertEqual(left_out(BOOK, [], LOG, 4), LOG[:4])
        self.assertIsNone(left_out(BOOK, [], LOG, 2))
        self.assertIsNone(left_out(BOOK, [], LOG, 3))
        self.assertEqual(left_out(BOOK, [], LOG + [("open", 1, C)], 4), LOG)
        self.assertEqual(left_out(BOOK, [], [("make", "a")], 0), [])
        told = left_out(index=0, log=as_lists(LOG), start=[], book=BOOK)
        self.assertEqual(told, list(as_tuples(told)))

    def test_told_twice(self):
        log = [("derive", 0, "x", "b"), ("show", 1), ("show", 1), ("bring", "a", (("given", 0), ("x",)))]
        self.assertEqual(left_out(WIDE, START, log, 1), log[:1] + log[2:])
        self.assertIsNone(left_out(WIDE, START, left_out(WIDE, START, log, 1), 1))

    def test_left_make_is_not_the_next_one(self):
        log = [("make", "a"), ("make", "a"), ("copy", 2, "b"), ("show", 3)]
        self.assertEqual(left_out(WIDE, START, log, 0), [("make", "a"), ("copy", 1, "b"), ("show", 2)])
        told, key = thinned_log(WIDE, START, log, M[1])
        self.assertEqual((told, key), ([("make", "a"), ("copy", 1, "b"), ("show", 2)], M[0]))
        log = [("make", "a"), ("make", "a"), ("copy", 1, "b"), ("show", 3)]
        told, key = thinned_log(WIDE, START, log, (("made", 0), ("x",)))
        self.assertEqual((told, key), ([("make", "a"), ("copy", 1, "b"), ("show", 2)], (("made", 0), ("x",))))

    def test_as_a_plain_reading(self):
        some = [0, 0]
        for count in range(150):
            book, start, log = some_case(Dice(count), 10)
            given = len(House(book, start).handles())
            for index in range(len(log)):
                wanted, _ = led_log(given, log, [at for at in range(len(log)) if at != index])
                if wanted is not None and plain_log(book.all_permits(), start, wanted)[2] is not None:
                    wanted = None
                some[wanted is None] += 1
                self.assertEqual(left_out(book, start, log, index), wanted)
        self.assertGreater(min(some), 50)


class TestThinned(WrapCase):
    def test_ordinary(self):
        told = thinned_log(BOOK, [], as_lists(LOG), [["made", 2], []])
        self.assertEqual(told, (THIN, M[1]))
        self.assertEqual([type(call) for call in told[0]], [tuple] * 4)
        self.assertEqual(thinned_log(key=O, log=LOG, start=[], book=BOOK), ([], O))
        self.assertEqual(thinned_log(BOOK, [], THIN, M[1]), (THIN, M[1]))

    def test_no_part_but_the_whole(self):
        found = 0
        for count in range(260):
            book, start, log = some_case(Dice(count), 11)
            given, permits = len(House(book, start).handles()), book.all_permits()
            house = House(book, start)
            for call in log:
                house.call(call)
            keys = {key for key, _ in house.handles()}
            for key in sorted([key for key in keys if log_tells(book, start, log, key) and key[0][0] != "own"])[:3]:
                told, led = thinned_log(book, start, log, key)
                self.assertIsNone(log_fault(book, start, told))
                self.says(True, log_tells(book, start, told, led))
                self.assertEqual((led[1], led[0][0]), (key[1], key[0][0]))
                found += 1
                for code in range(2 ** len(told) - 1 if len(told) < 8 else 0):
                    order = [at for at in range(len(told)) if code >> at & 1]
                    part, makes = led_log(given, told, order)
                    if part is None or (led[0][0] == "made" and led[0][1] not in makes):
                        continue
                    base = ("made", makes[led[0][1]]) if led[0][0] == "made" else led[0]
                    if plain_log(permits, start, part)[2] is None:
                        self.says(False, log_tells(book, start, part, (base, led[1])))
        self.assertGreater(found, 60)


class TestItHolds(WrapCase):
    def cases(self, counts, many):
        for count in counts:
            yield (Dice(count + 7),) + some_case(Dice(count), many)

    def keys(self, book, start, log):
        return sorted({key for key, _ in played(book, start, log).handles()} | {(("given", 0), ()), M[0], M[1], O})

    def test_6_1_as_a_plain_reading(self):
        for dice, book, start, log in self.cases(range(200), 12):
            house, answers, fault = plain_log(book.all_permits(), start, log)
            self.assertIsNone(fault)
            self.assertEqual(log_answers(book, start, log), answers)
            self.assertEqual(played(book, start, log).handles(), house.handles)
            other = dice.mixed(log)
            self.assertEqual(log_fault(book, start, other), plain_log(book.all_permits(), start, other)[2])

    def test_6_2(self):
        for _, book, start, log in self.cases(range(150), 12):
            less = Book(book.all_roles(), book.all_labels(), permits_used(book, start, log))
            self.assertIsNone(log_fault(less, start, log))
            for key in self.keys(book, start, log):
                self.assertEqual(log_tells(less, start, log, key), log_tells(book, start, log, key))
            for permit in less.all_permits():
                fewer = Book(book.all_roles(), book.all_labels(), [p for p in less.all_permits() if p != permit])
                self.assertEqual(log_fault(fewer, start, log)[1], "permit")

    def test_6_5(self):
        for dice, book, start, log in self.cases(range(150), 10):
            other = log[:dice.number(len(log) + 1)]
            given = len(House(book, start).handles())
            both = log_behind(book, start, log, other)
            self.assertIsNone(log_fault(book, start, both))
            self.assertEqual((both[:len(log)], len(both)), (log, len(log) + len(other)))
            house, more = played(book, start, log), len([call for call in log if call[0] == "make"])
            second, whole = played(book, start, other).handles()[given:], played(book, start, both).handles()
            self.assertEqual(whole[:len(house.handles())], house.handles())
            self.assertEqual(len(whole), len(house.handles()) + len(second))
            for (key, role), led in zip(second, whole[len(house.handles()):]):
                self.assertEqual(led, (self.led(key, more), role))
            for key in self.keys(book, start, log):
                if log_tells(book, start, log, key):
                    self.says(True, log_tells(book, start, both, key))
                if log_tells(book, start, other, key):
                    self.says(True, log_tells(book, start, both, self.led(key, more)))

    def led(self, key, more):
        return (("made", key[0][1] + more), key[1]) if key[0][0] == "made" else key

    def test_6_6(self):
        most = 0
        for _, book, start, log in self.cases(range(200), 12):
            rounds = log_rounds(book, start, log)
            self.assertEqual(rounds, self.plain_rounds(book, start, log))
            most = max([most] + rounds)
            told = in_rounds(book, start, log)
            order = sorted(range(len(log)), key=lambda at: (rounds[at], at))
            self.assertEqual(told, led_log(len(House(book, start).handles()), log, order)[0])
            self.assertIsNone(log_fault(book, start, told))
            self.assertEqual(log_rounds(book, start, told), sorted(rounds))
        self.assertGreater(most, 4)

    def plain_rounds(self, book, start, log):
        """Try for each call each least number of rounds, as 6.6 words it."""
        answers = log_answers(book, start, log)
        given = len(House(book, start).handles())
        maker = {answers[at]: at for at in range(len(log)) if makes_handle(log[at])}
        rounds = [None] * len(log)
        for number in range(len(log)):
            done = [at for at in range(len(log)) if rounds[at] is not None]
            out = [answers[at] for at in done if not makes_handle(log[at])]
            ready = []
            for at, call in enumerate(log):
                named = call[1:1 + HANDLES.get(call[0], 0)]
                handed = [call[2]] if call[0] in ("bring", "unwrap", "seal", "open") else []
                if at not in done and all(h < given or maker[h] in done for h in named):
                    if all(plain_knows(out, thing) for thing in handed):
                        ready.append(at)
            for at in ready:
                rounds[at] = number + 1
        return rounds

    def test_6_6_no_parting_has_lesser_ones(self):
        looked = 0
        for _, book, start, log in self.cases(range(60), 4):
            rounds, answers = log_rounds(book, start, log), log_answers(book, start, log)
            given = len(House(book, start).handles())
            for parted in product(range(1, len(log) + 1), repeat=len(log)):
                right = True
                for at, call in enumerate(log):
                    ahead = [other for other in range(len(log)) if parted[other] < parted[at]]
                    there = [answers[other] for other in ahead if makes_handle(log[other])]
                    out = [answers[other] for other in ahead if not makes_handle(log[other])]
                    named = call[1:1 + HANDLES.get(call[0], 0)]
                    right = right and all(h < given or h in there for h in named)
                    if right and call[0] in ("bring", "unwrap", "seal", "open"):
                        right = plain_knows(out, call[2])
                if right:
                    looked += 1
                    self.assertTrue(all(mine >= least for mine, least in zip(parted, rounds)))
        self.assertGreater(looked, 100)


class TestRounds(WrapCase):
    def test_ordinary(self):
        self.assertEqual(log_rounds(BOOK, [], []), [])
        self.assertEqual(in_rounds(BOOK, [], []), [])
        self.assertEqual(log_rounds(log=as_lists(LOG), start=[], book=BOOK), [1, 1, 1, 2, 3])

    def test_told_later_in_the_log(self):
        key = (("given", 0), ("x",))
        log = [
            ("derive", 0, "x", "b"), ("copy", 0, "b"), ("wrap", 0, 1), ("unwrap", 0, ("under", G, key), "b"),
            ("show", 3), ("bring", "a", key), ("show", 1),
        ]
        self.assertEqual(log_rounds(WIDE, START, log), [1, 1, 2, 3, 4, 3, 2])
        told = in_rounds(book=WIDE, log=log, start=START)
        self.assertEqual(told, [
            ("derive", 0, "x", "b"), ("copy", 0, "b"), ("wrap", 0, 1), ("show", 1), ("unwrap", 0, ("under", G, key), "b"),
            ("bring", "a", key), ("show", 3),
        ])
        self.assertEqual(log_rounds(WIDE, START, told), [1, 1, 2, 2, 3, 3, 4])

    def test_numbers_change(self):
        log = [("copy", 0, "b"), ("wrap", 0, 1), ("bring", "a", O), ("make", "a"), ("wrap", 3, 1), ("seal", 2, O)]
        self.assertEqual(log_rounds(WIDE, START, log), [1, 2, 1, 1, 2, 2])
        self.assertEqual(in_rounds(WIDE, START, log), [
            ("copy", 0, "b"), ("bring", "a", O), ("make", "a"), ("wrap", 0, 1), ("wrap", 3, 1), ("seal", 2, O),
        ])
        log = [("wrap", 0, 1), ("open", 0, ("under", G, G)), ("bring", "a", G), ("copy", 0, "b"), ("show", 3)]
        self.assertEqual(log_rounds(WIDE, [["a", "b"]], log), [1, 2, 3, 1, 2])
        self.assertEqual(in_rounds(WIDE, [["a", "b"]], log), [
            ("wrap", 0, 1), ("copy", 0, "b"), ("open", 0, ("under", G, G)), ("show", 2), ("bring", "a", G),
        ])


class TestBehind(WrapCase):
    def test_ordinary(self):
        self.assertEqual(log_behind(BOOK, [], [], LOG), LOG)
        self.assertEqual(log_behind(BOOK, [], LOG, []), LOG)
        self.assertEqual(log_behind(other=as_lists(THIN), log=as_lists(LOG), start=[], book=BOOK), LOG + [
            ("make", "a"), ("make", "d"), ("wrap", 3, 4), ("open", 3, ("under", M[3], M[4])),
        ])

    def test_given_and_own_ones_stay(self):
        log = [("make", "a"), ("bring", "a", O), ("copy", 1, "b"), ("show", 3), ("bring", "a", M[0])]
        other = [("bring", "a", O), ("seal", 0, O), ("seal", 1, O)]
        self.assertEqual(log_behind(WIDE, START, log, other), log + [
            ("bring", "a", O), ("seal", 0, O), ("seal", 5, O),
        ])
        self.assertEqual(log_behind(WIDE, START, log, log), log + [
            ("make", "a"), ("bring", "a", O), ("copy", 5, "b"), ("show", 7), ("bring", "a", M[1]),
        ])
