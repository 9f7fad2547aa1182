"""5: houses and calls."""

from tests.plain import PlainHouse, Refused, makes_handle
from tests.samples import some_book, some_call, some_case, some_start
from tests.tools import Dice, Hostile, WrapCase, as_lists, as_tuples, empties, odd_things
from underwraps.books import Book
from underwraps.errors import (
    BadBook, BadCall, BadStart, NoHandle, NoPermit, NotKey, NotKnown, NotUnder, WrapError,
)
from underwraps.houses import House, is_call

EXAMPLE = Book(["data", "kek"], [], [
    ("make", "data"), ("wrap", "kek", "data"), ("unwrap", "kek", "data"), ("open", "data"),
])
BOOK = Book(["a", "b"], ["x"], [
    ("make", "a"), ("bring", "a"), ("show", "b"), ("copy", "a", "b"), ("derive", "a", "x", "b"), ("wrap", "a", "b"),
    ("unwrap", "a", "b"), ("seal", "a"), ("open", "a"),
])
G0, G1, M, O = (("given", 0), ()), (("given", 1), ()), (("made", 0), ()), (("own", 0), ())
GX = (("given", 0), ("x",))
ERRORS = {
    "handle": NoHandle, "permit": NoPermit, "known": NotKnown, "under": NotUnder, "inner": NotKey, "call": BadCall,
}
NO_CALLS = [
    ("make",), ("make", "c"), ("make", "x"), ("make", "a", "a"), ("make", "known"), ("bring", "a"), ("bring", O, "a"),
    ("bring", "a", ("under", O, O)), ("bring", "a", (("own", 0), ("y",))), ("bring", "c", O), ("show", -1),
    ("show", "0"), ("show", None), ("show", True), ("show",), ("show", 0, 0), ("copy", 0), ("copy", "a", 0),
    ("copy", 0, "x"), ("derive", 0, "y", "a"), ("derive", 0, "a", "x"), ("derive", 0, "x"), ("wrap", 0), ("wrap", 0, "a"),
    ("wrap", 0, -1), ("wrap", False, 0), ("unwrap", 0, "a", O), ("unwrap", 0, O), ("unwrap", 0, ("under", O), "a"),
    ("seal", 0), ("seal", O, 0), ("seal", 0, None), ("open", 0, "a"), ("open", 0, ("under", O, (("own", 0), ("y",)))),
    ("close", 0, O), "make a", {"make": "a"}, {"make", "a"}, (b"make", "a"), ("show", Hostile()), ("seal", 0, Hostile()),
    ("unwrap", 0, O, Hostile()), ("bring", Hostile(), O), ("derive", 0, Hostile(), "a"), ("make", ["a"]),
]


class TestExample(WrapCase):
    def test_5_5(self):
        house = House(EXAMPLE, [["kek"], ["data"]])
        self.assertEqual(house.handles(), [(G0, "kek"), (G1, "data")])
        self.assertEqual(house.call(("make", "data")), 2)
        that = house.call(("wrap", 0, 2))
        self.assertEqual(that, ("under", (("given", 0), ()), (("made", 0), ())))
        self.assertEqual(house.call(("unwrap", 0, that, "data")), 3)
        self.assertEqual(house.handles()[3], (M, "data"))
        self.raises_equal(NoPermit, ("wrap", "data", "kek"), house.call, ("wrap", 2, 0))
        self.raises(NotUnder, that, house.call, ("open", 2, that))
        self.raises_equal(NoPermit, ("bring", "data"), house.call, ("bring", "data", (("own", 0), ())))

    def test_5_5_were_it_let(self):
        book = Book(["data", "kek"], [], EXAMPLE.all_permits() + [("wrap", "kek", "kek")])
        house = House(book, [["kek"]])
        that = house.call(("wrap", 0, 0))
        self.assertEqual(house.call(("unwrap", 0, that, "data")), 1)
        self.assertEqual(house.call(("open", 1, that)), G0)


class TestHouse(WrapCase):
    def test_new_house(self):
        house = House(BOOK, (["a", "b"], [], ("b",)))
        self.assertEqual(house.handles(), [(G0, "a"), (G0, "b"), ((("given", 2), ()), "b")])
        self.assertEqual((house.out(), house.start()), ([], [["a", "b"], [], ["b"]]))
        self.assertEqual(house.book(), BOOK)
        self.assertEqual(House(start=[], book=BOOK).handles(), [])
        self.assertEqual(House(Book([], [], []), [[], []]).handles(), [])

    def test_errors(self):
        for thing in odd_things() + empties():
            self.raises(BadBook, thing, House, thing, None)
        for start in [None, "a", {}, {("a",)}, 1, Hostile()]:
            self.raises(BadStart, 0, House, BOOK, start)
        for row in ["a", None, ["b", "a"], ["a", "a"], ["c"], ["known"], ["x"], {"a": 1}, Hostile(), [Hostile()]]:
            self.raises(BadStart, 1, House, BOOK, [["a"], row, None])

    def test_told_new(self):
        start = [["a"], ["a"]]
        house = House(BOOK, start)
        house.call(("copy", 0, "b"))
        house.call(("show", 2))
        kept = house.copy()
        start[0].append("b")
        house.handles().clear()
        house.out().append(1)
        told = house.start()
        told[0].append("b")
        self.assertEqual(told[1], ["a"])
        told.append([])
        self.assertEqual(house, kept)
        self.assertEqual((len(house.handles()), house.out(), house.start()), (3, [G0], [["a"], ["a"]]))

    def test_copy_goes_on_by_itself(self):
        house = House(BOOK, [["a"]])
        house.call(("make", "a"))
        other = house.copy()
        self.assertEqual(house, other)
        sealed = other.call(("seal", 0, O))
        self.raises(NotKnown, sealed, house.call, ("open", 0, sealed))
        self.assertEqual(other.call(("make", "a")), 2)
        self.assertEqual((house.out(), len(house.handles()), len(other.handles())), ([], 2, 3))
        house.call(("copy", 1, "b"))
        self.assertEqual(other.handles()[2], ((("made", 1), ()), "a"))
        self.assertEqual(house.handles()[2], (M, "b"))
        self.assertNotEqual(house, other)

    def test_equal(self):
        def behind(*calls, book=BOOK, start=(("a",), ("a", "b"))):
            house = House(book, start)
            for call in calls:
                house.call(call)
            return house
        self.assertEqual(behind(), behind(start=[["a"], ["a", "b"]]))
        self.assertEqual(behind(("make", "a"), ("show", 2)), behind(("make", "a"), ("show", 2)))
        less = Book(["a", "b"], ["x"], BOOK.all_permits()[1:])
        unlike = [
            behind(), behind(book=less), behind(start=[["a"], ["a"]]), behind(start=[["a"], ["a", "b"], []]),
            behind(("make", "a")), behind(("copy", 0, "b")), behind(("show", 2)), behind(("show", 2), ("show", 2)),
            behind(("make", "a"), ("copy", 0, "b")), behind(("copy", 0, "b"), ("make", "a")), behind(("seal", 0, O)),
        ]
        for at, house in enumerate(unlike):
            for other, found in enumerate(unlike):
                self.says(at == other, house == found)
                self.says(at != other, house != found)
            for thing in odd_things() + [BOOK]:
                self.says(False, house == thing)

    def test_made_or_brought(self):
        book = Book(["a"], [], [("make", "a"), ("bring", "a"), ("show", "a")])
        one, other = House(book, []), House(book, [])
        for house, calls in [
            (one, [("make", "a"), ("show", 0), ("make", "a"), ("bring", "a", M)]),
            (other, [("make", "a"), ("show", 0), ("bring", "a", M), ("bring", "a", M)]),
        ]:
            for call in calls:
                house.call(call)
        self.assertNotEqual(one, other)


class TestCalls(WrapCase):
    def test_all_nine(self):
        house = House(BOOK, [["a"]])
        under = ("under", G0, GX)
        for call, told in [
            (("make", "a"), 1), (("make", "a"), 2), (("copy", 0, "b"), 3), (("derive", 0, "x", "b"), 4),
            (("wrap", 0, 4), under), (("unwrap", 0, under, "b"), 5), (("show", 5), GX), (("bring", "a", GX), 6),
            (("bring", "a", (("given", 0), ("x", "x"))), 7), (("bring", "a", (("own", 9), ("x",))), 8),
            (("seal", 1, under), ("under", M, under)), (("open", 1, ("under", M, under)), under),
            (("open", 0, under), GX), (("seal", 2, ("under", O, GX)), ("under", (("made", 1), ()), ("under", O, GX))),
            (("wrap", 0, 3), ("under", G0, G0)), (("derive", 6, "x", "b"), 9),
        ]:
            self.assertEqual(house.call(as_lists(call) if len(house.out()) % 2 else call), told)
        self.assertEqual(house.handles(), [
            (G0, "a"), (M, "a"), ((("made", 1), ()), "a"), (G0, "b"), (GX, "b"), (GX, "b"), (GX, "a"),
            ((("given", 0), ("x", "x")), "a"), ((("own", 9), ("x",)), "a"), ((("given", 0), ("x", "x")), "b"),
        ])
        self.assertEqual(house.out(), [
            under, GX, ("under", M, under), under, GX, ("under", (("made", 1), ()), ("under", O, GX)), ("under", G0, G0),
        ])
        self.assertEqual(house.out(), list(as_tuples(house.out())))
        self.assertEqual(house.handles(), list(as_tuples(house.handles())))

    def test_once_more(self):
        house = House(BOOK, [["a"]])
        self.assertEqual([house.call(call=("copy", 0, "b")) for _ in range(3)], [1, 2, 3])
        self.assertEqual(house.handles()[1:], [(G0, "b")] * 3)

    def test_what_is_a_call(self):
        for call in [
            ("make", "a"), ("bring", "b", O), ("bring", "b", (("made", 99), ("x", "x"))), ("show", 10 ** 30), ("copy", 7, "a"),
            ("derive", 0, "x", "b"), ("wrap", 3, 3), ("unwrap", 5, O, "a"), ("unwrap", 5, ("under", O, ("under", O, M)), "a"),
            ("seal", 0, ("under", (("given", 77), ()), O)), ("open", 0, O),
        ]:
            self.says(True, is_call(BOOK, call))
            self.says(True, is_call(thing=as_lists(call), book=BOOK))
        for thing in odd_things() + empties() + NO_CALLS:
            self.says(False, is_call(BOOK, thing))
            self.raises(BadBook, thing, is_call, thing, thing)
        self.says(False, is_call(Book([], [], []), ("make", "a")))
        self.says(True, is_call(Book([], [], []), ("show", 0)))

    def refused(self, house, error, held, call):
        before = house.copy()
        self.raises(error, held, house.call, call)
        self.assertEqual(house, before)
        self.assertEqual(house.handles(), before.handles())

    def test_bad_call(self):
        house = House(BOOK, [["a", "b"]])
        for thing in odd_things() + empties() + NO_CALLS:
            self.refused(house, BadCall, thing, thing)

    def test_no_handle(self):
        house = House(BOOK, [["a", "b"]])
        for call, handle in [
            (("show", 2), 2), (("copy", 7, "b"), 7), (("derive", 2, "x", "a"), 2), (("wrap", 5, 6), 5), (("wrap", 0, 6), 6),
            (("wrap", 1, 2), 2), (("unwrap", 3, M, "a"), 3), (("seal", 2, M), 2), (("open", 10 ** 20, M), 10 ** 20),
        ]:
            self.refused(house, NoHandle, handle, call)
        self.refused(House(BOOK, []), NoHandle, 0, ("show", 0))

    def test_no_permit(self):
        house = House(BOOK, [["a", "b"]])
        for call, permit in [
            (("make", "b"), ("make", "b")), (("bring", "b", M), ("bring", "b")), (("show", 0), ("show", "a")),
            (("copy", 1, "a"), ("copy", "b", "a")), (("derive", 0, "x", "a"), ("derive", "a", "x", "a")),
            (("wrap", 1, 0), ("wrap", "b", "a")), (("unwrap", 0, M, "a"), ("unwrap", "a", "a")),
            (("seal", 1, M), ("seal", "b")), (("open", 1, M), ("open", "b")),
        ]:
            before = house.copy()
            self.raises_equal(NoPermit, permit, house.call, call)
            self.assertEqual(house, before)

    def test_not_known(self):
        house = House(BOOK, [["a", "b"]])
        for call in [
            ("bring", "a", M), ["bring", "a", [["given", 0], []]], ("unwrap", 0, M, "b"), ("seal", 0, G0),
            ("unwrap", 0, ("under", G0, O), "b"), ("seal", 0, ("under", O, M)), ("open", 0, ["under", G0, O]),
        ]:
            self.refused(house, NotKnown, call[2], call)

    def test_not_under(self):
        house = House(BOOK, [["a"], ["a"]])
        for call in [
            ("unwrap", 0, O, "b"), ("open", 0, O), ["open", 0, ["under", [["own", 0], []], [["own", 0], []]]],
            ("unwrap", 1, house.call(("seal", 0, O)), "b"), ("open", 1, house.out()[0]),
        ]:
            self.refused(house, NotUnder, call[2], call)

    def test_not_key(self):
        house = House(BOOK, [["a"]])
        inner = ("under", O, O)
        sealed = house.call(("seal", 0, inner))
        self.refused(house, NotKey, sealed[2], ("unwrap", 0, sealed, "b"))
        listed = as_lists(sealed)
        self.refused(house, NotKey, listed[2], ("unwrap", 0, listed, "b"))
        self.raises_equal(NotKey, inner, house.call, ("unwrap", 0, sealed, "b"))
        self.assertEqual(house.call(("open", 0, sealed)), inner)

    def test_passed_is_left_alone(self):
        house = House(BOOK, [["a"]])
        call = as_lists(("seal", 0, ("under", O, O)))
        house.call(call)
        self.assertEqual(call, as_lists(("seal", 0, ("under", O, O))))
        call[2][2][1].append("x")
        self.assertEqual(house.out(), [("under", G0, ("under", O, O))])


class TestItHolds(WrapCase):
    def test_as_a_plain_reading(self):
        whys = {}
        for count in range(300):
            dice = Dice(count)
            roles, labels = ["a", "b", "c"][:1 + dice.number(3)], ["x", "y"][:dice.number(3)]
            book, start = some_book(dice, roles, labels, 2), some_start(dice, roles, 3)
            house, plain = House(book, start), PlainHouse(book.all_permits(), start)
            for _ in range(40):
                call = some_call(dice, book, house)
                before = house.copy()
                try:
                    told = plain.call(call)
                except Refused as refused:
                    whys[refused.why] = whys.get(refused.why, 0) + 1
                    self.raises_equal(ERRORS[refused.why], refused.what, house.call, call)
                    self.assertEqual(house, before)
                else:
                    self.assertEqual(house.call(call), told)
                    whys[call[0]] = whys.get(call[0], 0) + 1
                self.assertEqual((house.handles(), house.out()), (plain.handles, plain.out))
        for why in list(ERRORS)[:5] + ["make", "bring", "show", "copy", "derive", "wrap", "unwrap", "seal", "open"]:
            self.assertGreater(whys[why], 4, why)

    def test_5_4(self):
        again = 0
        for count in range(120):
            book, start, log = some_case(Dice(count + 500), 12)
            house, told = House(book, start), []
            for call in log:
                handles, out = house.handles(), house.out()
                told.append(house.call(call))
                self.assertEqual(house.handles()[:len(handles)], handles)
                self.assertEqual(house.out()[:len(out)], out)
                self.assertEqual(len(house.handles()) + len(house.out()), len(handles) + len(out) + 1)
            for call, answer in zip(log, told):
                again += 1
                more = house.call(call)
                if not makes_handle(call):
                    self.assertEqual(more, answer)
                    continue
                self.assertEqual(more, len(house.handles()) - 1)
                if call[0] == "make":
                    made = len({key[0] for key, _ in house.handles() if key[0][0] == "made"})
                    self.assertEqual(house.handles()[more], ((("made", made - 1), ()), call[1]))
                else:
                    self.assertEqual(house.handles()[more], house.handles()[answer])
        self.assertGreater(again, 400)

    def test_refusals_are_wrap_errors(self):
        for why, error in ERRORS.items():
            self.assertTrue(issubclass(error, WrapError), why)
