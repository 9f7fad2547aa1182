"""15.2 to 15.4, 15.7: one book for all, its logs, and back."""

from tests.plain import Refused, plain_log
from tests.plainhouses import (
    PlainHouses, View, joined_call, plain_houses, plain_joined, plain_joined_log, some_houses, some_houses_log,
)
from tests.plainrules import all_asked
from tests.plainwords import plain_brings, plain_reach
from tests.samples import some_call, some_log
from tests.test_several import BOOKS, C, LOG, STARTS
from tests.tools import Dice, Hostile, WrapCase, as_lists, as_tuples, empties, odd_things
from underwraps.books import Book
from underwraps.errors import BadLog, WrapError
from underwraps.houses import House
from underwraps.joining import joined, joined_log, parted_log
from underwraps.logs import log_fault, played
from underwraps.refusals import BadHousesLog
from underwraps.several import Houses, houses_fault


class TestExample(WrapCase):
    def test_15_7(self):
        book, start = joined(BOOKS, STARTS)
        self.assertEqual(book.all_roles(), ["d0", "o1", "w0"])
        self.assertEqual(book.all_permits(), [("make", "d0"), ("open", "o1"), ("wrap", "w0", "d0")])
        self.assertEqual(start, [["o1", "w0"]])
        self.assertEqual(joined_log(BOOKS, STARTS, LOG), [("make", "d0"), ("wrap", 1, 2), ("open", 0, C)])
        self.assertEqual(parted_log(BOOKS, STARTS, joined_log(BOOKS, STARTS, LOG)), LOG)


class TestJoined(WrapCase):
    def test_edges(self):
        bare = Book([], ["x"], [])
        self.assertEqual(joined([bare], [[]]), (bare, []))
        self.assertEqual(joined(starts=([[], []], ((), ())), books=(bare, bare)), (bare, [[], []]))
        # A role and a label may be called alike, and a role as another house's with its index.
        book = Book(["x", "make", "x1"], ["x", "make"], [("derive", "x", "x", "make"), ("copy", "x1", "x"), ("make", "make")])
        told, start = joined([book, book], [[["x", "x1"]], [["make"]]])
        self.assertEqual(told, Book(["x0", "x10", "make0", "x1", "x11", "make1"], ["x", "make"], [
            ("derive", "x0", "x", "make0"), ("copy", "x10", "x0"), ("make", "make0"),
            ("derive", "x1", "x", "make1"), ("copy", "x11", "x1"), ("make", "make1"),
        ]))
        self.assertEqual(start, [["make1", "x0", "x10"]])
        ten = [Book(["r" + "o" * house], [], [("make", "r" + "o" * house)]) for house in range(7)] + [Book(["z"], [], [])] * 3
        self.assertEqual(joined(ten, [[]] * 10)[0].all_roles(), sorted(["r" + "o" * house + str(house) for house in range(7)] + ["z7", "z8", "z9"]))

    def test_as_a_plain_reading(self):
        for count in range(100):
            books, starts = some_houses(Dice(count))
            for shape in (as_lists, as_tuples):
                self.assertEqual(joined(books=shape(books), starts=shape(starts)), plain_joined(books, starts))


class TestLogs(WrapCase):
    def test_edges(self):
        for empty in ([], ()):
            self.assertEqual(joined_log(BOOKS, STARTS, empty), [])
            self.assertEqual(parted_log(BOOKS, STARTS, empty), [])
        for shape in (as_lists, as_tuples):
            self.assertEqual(joined_log(log=shape(LOG), starts=shape(STARTS), books=shape(BOOKS)), [("make", "d0"), ("wrap", 1, 2), ("open", 0, C)])
            log = shape([("make", "d0"), ("wrap", 1, 2), ("open", 0, C)])
            self.assertEqual(repr(parted_log(log=log, starts=shape(STARTS), books=shape(BOOKS))), repr(LOG))

    def test_errors(self):
        for thing in [None, "", 0, {}, {LOG[0]: 1}, Hostile(), iter(LOG)]:
            self.raises(BadHousesLog, 0, joined_log, BOOKS, STARTS, thing)
            self.raises(BadLog, 0, parted_log, BOOKS, STARTS, thing)
        for thing in odd_things() + empties() + [("make", "d0"), (0, ("show", 0)), (2, ("make", "d")), (0, ("make", "d0"))]:
            self.raises(BadHousesLog, 2, joined_log, BOOKS, STARTS, LOG[:2] + [thing, None])
        for thing in odd_things() + empties() + [LOG[0], ("make", "d"), ("show", 0), ("wrap", 0, 2), ("make", "d1")]:
            self.raises(BadLog, 1, parted_log, BOOKS, STARTS, [("make", "d0"), thing, None])

    def test_15_4(self):
        let = refused = 0
        for count in range(160):
            dice = Dice(count)
            books, starts = some_houses(dice)
            log = some_houses_log(dice, books, starts, 14)
            book, start = joined(books, starts)
            told, numbers = plain_joined_log(books, starts, log)
            self.assertEqual(joined_log(books, starts, log), told)
            self.assertIsNone(log_fault(book, start, told))
            self.assertEqual(parted_log(books, starts, told), log)
            # Call by call both tell the same thing, or a handle of the same key, with the same role, so called.
            houses, answers, _ = plain_houses(books, starts, log)
            whole, others, fault = plain_log(book.all_permits(), start, told)
            self.assertIsNone(fault)
            for (house, _), answer, other in zip(log, answers, others):
                if isinstance(answer, int):
                    key, role = houses.houses[house].handles[answer]
                    self.assertEqual(whole.handles[other], (key, role + str(house)))
                else:
                    self.assertEqual(answer, other)
            self.assertEqual(houses.out, whole.out)
            more = self.further(dice, books, starts, log, told, numbers)
            let, refused = let + more[0], refused + more[1]
        self.assertGreater(let, 200)
        self.assertGreater(refused, 500)

    def further(self, dice, books, starts, log, told, numbers):
        """Look that further calls are let by both, or refused by both, by the same class of error; return how many."""
        houses, counts = Houses(books, starts), [0, 0]
        for house, call in log:
            houses.call(house, call)
        for _ in range(12):
            house = dice.number(len(books))
            call = some_call(dice, books[house], View(houses, house))
            try:
                led = joined_call(house, call, numbers)
            except KeyError:
                continue
            kinds = []
            for calls in (lambda: houses.copy().call(house, call), lambda: played(*joined(books, starts), told).call(led)):
                try:
                    calls()
                    kinds.append(None)
                except WrapError as error:
                    kinds.append(type(error))
            self.assertEqual(kinds[0], kinds[1])
            counts[kinds[0] is not None] += 1
        return counts

    def test_the_other_way_round(self):
        calls = 0
        for count in range(120):
            dice = Dice(count)
            books, starts = some_houses(dice)
            book, start = joined(books, starts)
            log = some_log(dice, book, start, 14)
            told = parted_log(books, starts, log)
            self.assertIsNone(houses_fault(books, starts, told))
            self.assertIsNone(plain_houses(books, starts, told)[2])
            self.assertEqual(joined_log(books, starts, told), log)
            calls += len(log)
            plain = PlainHouses(books, starts)
            for house, call in told:
                plain.call(house, call)
            self.assertEqual(plain.out, played(book, start, log).out())
        self.assertGreater(calls, 500)

    def test_what_houses_let_out_the_book_for_all_does(self):
        out = 0
        for count in range(120):
            dice = Dice(count)
            books, starts = some_houses(dice)
            log = some_houses_log(dice, books, starts, 14)
            book, start = joined(books, starts)
            told = joined_log(books, starts, log)
            houses, _, _ = plain_houses(books, starts, log)
            for asked in all_asked(book, start, 1):
                if asked[0] != "known" and plain_brings(book.all_permits(), start, told, asked, "known"):
                    self.assertIn("known", plain_reach(book, start, asked))
                    out += 1
            self.assertEqual(len(houses.out), len(House(book, start).out()) + len([call for _, call in log if call[0] in (
                "show", "wrap", "seal", "open")]))
        self.assertGreater(out, 50)
        with self.assertRaises(Refused):
            PlainHouses(BOOKS, STARTS).call(0, ("show", 0))
