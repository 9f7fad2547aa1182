"""15.1, 15.3, 15.7: several houses with one user, logs of houses."""

from tests.plain import Refused
from tests.plainhouses import PlainHouses, View, plain_houses, some_houses, some_houses_log
from tests.samples import some_call
from tests.tools import Dice, Hostile, Odd, WrapCase, as_lists, as_tuples, empties, odd_things, ring
from underwraps.books import Book
from underwraps.errors import BadCall, NoHandle, NoPermit, NotKey, NotKnown, NotUnder, WrapError
from underwraps.houses import House
from underwraps.refusals import BadBooks, BadStarts, NoHouse
from underwraps.several import Houses, houses_fault

BOOKS = [Book(["d", "w"], [], [("make", "d"), ("wrap", "w", "d")]), Book(["o"], [], [("open", "o")])]
STARTS = [[["w"]], [["o"]]]
G, O = (("given", 0), ()), (("own", 0), ())
M = [(("made", number), ()) for number in range(5)]
C = ("under", G, M[0])
LOG = [(0, ("make", "d")), (0, ("wrap", 0, 1)), (1, ("open", 0, C))]
ERRORS = {"call": BadCall, "handle": NoHandle, "permit": NoPermit, "known": NotKnown, "under": NotUnder, "inner": NotKey}
NO_INDEX = [-1, 2, True, False, None, "0", 0.0, [0], (), Odd(), Hostile(), 10 ** 20]


class TestExample(WrapCase):
    def test_15_7(self):
        houses = Houses(BOOKS, STARTS)
        self.assertEqual([houses.call(house, call) for house, call in LOG], [1, C, M[0]])
        self.assertIsNone(houses_fault(BOOKS, STARTS, LOG))


class TestMade(WrapCase):
    def test_bad_books(self):
        good = Book(["a"], ["x"], [])
        self.assertEqual(len(Houses([good] * 10, [[]] * 10).out()), 0)
        for thing in [None, "ab", "", 0, True, {}, {0: good}, {"a"}, Odd(), Hostile(), iter([good]), [], (), good]:
            self.raises(BadBooks, 0, Houses, thing, None)
            self.raises(BadBooks, 0, houses_fault, thing, None, None)
        for thing in odd_things() + empties() + [
            Book(["a"], [], []), Book(["a"], ["y"], []), Book(["a"], ["x", "y"], []), Book(["abcdefgh"], ["x"], []),
            Book(["a", "abcdefg8"], ["x"], []), [good], Book,
        ]:
            self.raises(BadBooks, 2, Houses, [good, Book(["abcdefg"], ["x"], []), thing, None], None)
            self.raises(BadBooks, 2, houses_fault, (good, good, thing), Hostile(), Hostile())
        self.raises(BadBooks, 0, Houses, [Book(["abcdefgh"], ["x"], []), good], None)
        self.raises(BadBooks, 10, Houses, [good] * 11, [[]] * 11)
        self.raises(BadBooks, 3, Houses, [good] * 3 + [None] * 9, None)

    def test_bad_starts(self):
        for thing in [None, "ab", "", 0, True, {}, {0: []}, {"a"}, Odd(), Hostile(), iter(STARTS), [], ()]:
            self.raises(BadStarts, 0, Houses, BOOKS, thing)
            self.raises(BadStarts, 0, houses_fault, starts=thing, books=BOOKS, thing=Hostile())
        for thing in [None, "o", [["d"]], [[["o"]]], [["o", "o"]], {}, Odd(), Hostile(), [None], ring(), 0, True, {0: ["o"]}]:
            self.raises(BadStarts, 1, Houses, BOOKS, [[["w"]], thing])
            self.raises(BadStarts, 0, Houses, BOOKS[1:], [thing])
        for thing in ([["o"], []], []):
            self.raises(BadStarts, 1, Houses, BOOKS, [[["w"]], thing])
        self.raises(BadStarts, 1, Houses, BOOKS, [[["w"]]])
        self.raises(BadStarts, 2, Houses, BOOKS, STARTS + [[["o"]]])
        self.raises(BadStarts, 0, Houses, BOOKS, [[["w", "d"]], None, None])
        self.raises(BadStarts, 1, Houses, BOOKS, [[["w"]], [], None])
        self.raises(BadStarts, 2, Houses, BOOKS, STARTS + [None])

    def test_lists_for_tuples(self):
        for shape in (as_lists, as_tuples):
            self.assertEqual(Houses(starts=shape(STARTS), books=shape(BOOKS)), Houses(BOOKS, STARTS))
            self.assertIsNone(houses_fault(thing=shape(LOG), starts=shape(STARTS), books=shape(BOOKS)))


class TestCalls(WrapCase):
    def test_one_house_is_a_house(self):
        for count in range(60):
            dice = Dice(count)
            books, starts = some_houses(dice, 1)
            houses, house = Houses(books, starts), House(books[0], starts[0])
            for _ in range(40):
                call = some_call(dice, books[0], house)
                told = []
                for calls in (lambda: house.call(call), lambda: houses.call(0, call)):
                    try:
                        told.append(calls())
                    except WrapError as error:
                        told.append((type(error), vars(error)))
                self.assertEqual(told[0], told[1])
            self.assertEqual((houses.handles(0), houses.out()), (house.handles(), house.out()))

    def test_each_refusal(self):
        books = [Book(["a", "b"], ["x"], [("seal", "a"), ("unwrap", "a", "b"), ("make", "a"), ("wrap", "a", "b"), ("show", "b")]),
                 Book(["c"], ["x"], [("open", "c"), ("make", "c"), ("bring", "c")])]
        houses = Houses(books, [[["a"], ["b"]], [["c"], []]])
        deep = houses.call(0, ("seal", 0, ("under", O, O)))
        for house, call, error, held in [
            (0, ("make", "c"), BadCall, None), (1, ("make", "a"), BadCall, None), (1, ("show", 1), NoHandle, 1), (0, ("show", 2), NoHandle, 2),
            (0, ("show", 0), NoPermit, ("show", "a")), (1, ("seal", 0, O), NoPermit, ("seal", "c")),
        ]:
            before = houses.copy()
            if held is None:
                self.raises(error, call, houses.call, house, call)
            else:
                self.raises_equal(error, held, houses.call, house, call)
            self.assertEqual(houses, before)
        before = houses.copy()
        for house, call, error in [(1, ("bring", "c", (("given", 1), ())), NotKnown), (1, ("open", 0, O), NotUnder)]:
            self.raises(error, call[2], houses.call, house, call)
        self.raises(NotKey, deep[2], houses.call, 0, ("unwrap", 0, deep, "b"))
        self.assertEqual(houses, before)
        # What came out of one house is known in the other one.
        self.assertEqual(houses.call(0, ("show", 1)), (("given", 1), ()))
        self.assertEqual(houses.call(1, ("bring", "c", (("given", 1), ()))), 1)
        self.assertEqual(houses.call(house=1, call=["open", 0, deep]), ("under", O, O))
        # Made keys are numbered in all houses together.
        self.assertEqual([houses.call(house, ("make", "ac"[house])) for house in (1, 0, 0, 1)], [2, 2, 3, 3])
        self.assertEqual(houses.handles(0)[2:], [(M[1], "a"), (M[2], "a")])
        self.assertEqual(houses.handles(1)[2:], [(M[0], "c"), (M[3], "c")])
        self.assertEqual(houses.out(), [deep, (("given", 1), ()), ("under", O, O)])

    def test_no_house(self):
        houses = Houses(BOOKS, STARTS)
        for thing in NO_INDEX:
            self.raises(NoHouse, thing, houses.call, thing, None)
            self.raises(NoHouse, thing, lambda which: houses.call(house=which, call=("make", "d")), thing)
            self.raises(NoHouse, thing, houses.handles, thing)
        self.assertEqual(houses, Houses(BOOKS, STARTS))

    def test_as_a_plain_reading(self):
        let = {}
        for count in range(120):
            dice = Dice(count)
            books, starts = some_houses(dice)
            houses, plain = Houses(books, starts), PlainHouses(books, starts)
            for _ in range(30):
                house = dice.number(len(books))
                call = some_call(dice, books[house], View(houses, house))
                before = houses.copy()
                try:
                    wanted = plain.call(house, call)
                    self.assertEqual(houses.call(house, call), wanted)
                    let["let"] = let.get("let", 0) + 1
                except Refused as refused:
                    self.raises_equal(ERRORS[refused.why], refused.what, houses.call, house, call)
                    self.assertEqual(houses, before)
                    let[refused.why] = let.get(refused.why, 0) + 1
            for house in range(len(books)):
                self.assertEqual(houses.handles(house), plain.houses[house].handles)
            self.assertEqual(houses.out(), plain.out)
        for why in ("let", "handle", "permit", "known", "under"):
            self.assertGreater(let[why], 30)


class TestEqual(WrapCase):
    def test_what_is_equal(self):
        one = Houses(BOOKS, STARTS)
        other = Houses([Book(["w", "d"], [], BOOKS[0].all_permits()[::-1]), BOOKS[1]], as_tuples(STARTS))
        self.assertEqual(one, other)
        for house, call in LOG:
            one.call(house, call)
            self.assertNotEqual(one, other)
            other.call(house, call)
            self.assertEqual(one, other)

    def test_what_is_not(self):
        one = Houses(BOOKS, STARTS)
        others = [
            Houses(BOOKS[:1], STARTS[:1]), Houses(BOOKS[::-1], STARTS[::-1]), Houses(BOOKS, [[["d", "w"]], [["o"]]]), Houses(BOOKS, [[[]], [[]]]),
            Houses([BOOKS[0], Book(["o"], [], [])], STARTS), House(BOOKS[0], STARTS[0]), None, 0, [], BOOKS, Odd(),
        ]
        for other in others:
            self.assertFalse(one == other)
            self.assertTrue(one != other)
        made = [Book(["a"], [], [("make", "a")])] * 2
        one, other = Houses(made, [[], []]), Houses(made, [[], []])
        one.call(0, ("make", "a"))
        other.call(1, ("make", "a"))
        self.assertNotEqual(one, other)
        self.assertNotEqual(one, Houses(made, [[], []]))

    def test_a_copy_goes_on_by_itself(self):
        one = Houses(BOOKS, STARTS)
        one.call(*LOG[0])
        other = one.copy()
        self.assertEqual(one, other)
        for house, call in LOG[1:]:
            other.call(house, call)
        self.assertNotEqual(one, other)
        self.assertEqual((one.out(), one.handles(0)), ([], [(G, "w"), (M[0], "d")]))
        self.assertEqual(other.out(), [C, M[0]])
        self.raises(NotKnown, C, one.call, 1, ("open", 0, C))
        self.assertEqual(one.call(0, ("make", "d")), 2)
        self.assertEqual(other.call(0, ("make", "d")), 2)
        self.assertEqual(one.copy().handles(0)[2], (M[1], "d"))

    def test_told_new(self):
        books, starts = list(BOOKS), as_lists(STARTS)
        houses = Houses(books, starts)
        books.clear()
        starts[0][0].append("d")
        houses.handles(0).clear()
        houses.out().append(1)
        self.assertEqual(houses, Houses(BOOKS, STARTS))
        call = ["wrap", 0, 1]
        houses.call(0, ("make", "d"))
        self.assertEqual(repr(houses.call(0, call)), repr(C))
        self.assertEqual(call, ["wrap", 0, 1])


class TestHousesFault(WrapCase):
    def test_each_why(self):
        for thing, why in [
            (None, "pair"), ("ab", "pair"), ((0,), "pair"), ((0, ("make", "d"), 0), "pair"), ((2, ("make", "d")), "house"), ((0, ("make", "o")), "call"),
            ((0, None), "call"), ((1, ("open", 1, O)), "handle"), ((0, ("show", 0)), "permit"), ((1, ("open", 0, (("given", 0), ()))), "known"),
            ((1, ("open", 0, O)), "under"), ((1, ("make", "d")), "call"), ((0, ("wrap", 0, 0)), "permit"), ((Hostile(), ("make", "d")), "house"),
            ((0, Hostile()), "call"), (Hostile(), "pair"), ({0: ("make", "d")}, "pair"), ((True, ("make", "d")), "house"), (("0", None), "house"),
        ]:
            self.assertEqual(houses_fault(BOOKS, STARTS, [LOG[0], thing, None]), (1, why))
        book = Book(["a"], [], [("seal", "a"), ("unwrap", "a", "a")])
        deep = ("under", G, ("under", O, O))
        log = [(1, ("seal", 0, ("under", O, O))), (0, ("unwrap", 0, deep, "a"))]
        self.assertEqual(houses_fault([book, book], [[["a"]], [["a"]]], log), (1, "inner"))

    def test_any_object(self):
        for thing in odd_things() + [None, "", {}, {(0, ("make", "d")): 1}, iter(LOG), LOG[0]]:
            told = houses_fault(BOOKS, STARTS, thing)
            if isinstance(thing, (list, tuple)):
                self.assertEqual((told[0], told[1] in ("pair", "house", "call")), (0, True))
            else:
                self.assertEqual(told, (0, "list"))
        for thing in odd_things() + empties():
            self.assertIn(houses_fault(BOOKS, STARTS, LOG + [thing]), [(3, why) for why in ("pair", "house", "call")])
        for thing in ([], ()):
            self.assertIsNone(houses_fault(BOOKS, STARTS, thing))
        self.assertEqual(houses_fault(BOOKS, STARTS, LOG[1:]), (0, "handle"))

    def test_as_a_plain_reading(self):
        for count in range(120):
            dice = Dice(count)
            books, starts = some_houses(dice)
            log = some_houses_log(dice, books, starts, 12)
            self.assertIsNone(houses_fault(books, starts, log))
            for _ in range(4):
                other = dice.mixed(log)
                self.assertEqual(houses_fault(books, starts, other), plain_houses(books, starts, other)[2])
