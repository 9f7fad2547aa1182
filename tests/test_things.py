"""4.1, 4.2: keys, things, what is known."""

from tests.plain import keys_of, parts, plain_knows, saturated, things_of
from tests.tools import Dice, Hostile, WrapCase, as_lists, as_tuples, empties, odd_things
from underwraps.books import Book
from underwraps.errors import BadBook, BadKey, BadLabel, BadThing, BadThings
from underwraps.things import depth_of, is_behind, is_key, is_thing, keys_in, knows, next_key

BOOK = Book(["a"], ["x", "y"], [])
BARE = Book([], [], [])
D, DX, DXY = [(("given", 0), word) for word in ((), ("x",), ("x", "y"))]
M, O, OX = (("made", 0), ()), (("own", 0), ()), (("own", 0), ("x",))

NO_KEYS = [
    (("given", 0), ("z",)), (("given", 0), ("x", 1)), (("given", 0), "x"), (("given", 0),), (("given", 0), (), ()),
    (("given", -1), ()), (("given", True), ()), (("given", 0.0), ()), (("lent", 0), ()), ("given", ()), (("given",), ()),
    (("given", 0, 0), ()), ((0, "given"), ()), (("given", "0"), ()), (("given", 0), {"x": 1}), (("given", 0), None),
    (("given", 0), {"x"}), {("given", 0): ()}, (("given", None), ()), ((b"given", 0), ()),
]


class TestKeys(WrapCase):
    def test_ordinary(self):
        for key in keys_of([("given", 0), ("made", 7), ("own", 10 ** 20)], ["x", "y"], 2):
            self.says(True, is_key(BOOK, key))
            self.says(True, is_key(BOOK, as_lists(key)))
            self.says(True, is_thing(BOOK, key))
            self.says(not key[1], is_key(BARE, key))

    def test_wrong(self):
        for thing in odd_things() + empties() + NO_KEYS:
            self.says(False, is_key(BOOK, thing))
            self.says(False, is_thing(BOOK, thing))
            self.says(False, is_thing(BOOK, ("under", thing, D)))
            self.says(False, is_thing(BOOK, ("under", D, thing)))
            self.says(False, is_thing(BOOK, ["under", D, ["under", D, thing]]))

    def test_bad_book(self):
        for thing in odd_things():
            for call in (is_key, is_thing, depth_of, keys_in):
                self.raises(BadBook, thing, call, thing, None)
            self.raises(BadBook, thing, next_key, thing, None, None)
            self.raises(BadBook, thing, is_behind, thing, None, None)
            self.raises(BadBook, thing, knows, thing, None, None)

    def test_next_key(self):
        self.assertEqual(next_key(BOOK, D, "x"), DX)
        self.assertEqual(next_key(BOOK, as_lists(DX), "y"), DXY)
        told = next_key(label="y", key=[["own", 0], ["x"]], book=BOOK)
        self.assertEqual(told, (("own", 0), ("x", "y")))
        self.assertEqual(told, as_tuples(told))

    def test_next_key_errors(self):
        for thing in odd_things() + NO_KEYS + [("under", D, D)]:
            self.raises(BadKey, thing, next_key, BOOK, thing, None)
        for thing in odd_things() + ["z", "X", ["x"]]:
            self.raises(BadLabel, thing, next_key, BOOK, D, thing)
            self.raises(BadLabel, thing, next_key, BARE, D, thing)

    def test_behind(self):
        for key, thing, wanted in [
            (D, DX, True), (D, DXY, True), (DX, DXY, True), (D, D, False), (DX, D, False), (M, DX, False),
            ((("given", 0), ("y",)), DXY, False), (O, OX, True), ((("own", 1), ()), OX, False),
            (D, (("given", 1), ("x",)), False), ((("own", 0), ()), DX, False), (D, ("under", D, DX), False),
            (D, (("given", 0), ("z",)), False),
        ]:
            self.says(wanted, is_behind(BOOK, key, thing))
            self.says(wanted, is_behind(BOOK, as_lists(key), as_lists(thing)))
        self.says(True, is_behind(thing=DX, key=D, book=BOOK))

    def test_behind_any_object(self):
        for thing in odd_things() + empties() + NO_KEYS:
            self.says(False, is_behind(BOOK, D, thing))
            self.raises(BadKey, thing, is_behind, BOOK, thing, thing)


class TestThings(WrapCase):
    def test_depth(self):
        self.assertEqual(depth_of(BOOK, DXY), 0)
        self.assertEqual(depth_of(BOOK, ("under", D, M)), 1)
        self.assertEqual(depth_of(BOOK, ["under", D, ["under", DX, as_lists(M)]]), 2)
        thing = D
        for depth in range(60):
            self.assertEqual(depth_of(thing=thing, book=BOOK), depth)
            self.says(True, is_thing(BOOK, thing))
            thing = ("under", M, thing)

    def test_keys_in(self):
        self.assertEqual(keys_in(BOOK, D), [D])
        thing = ("under", M, ("under", DX, ("under", O, ("under", D, DX))))
        self.assertEqual(keys_in(BOOK, thing), [D, DX, M, O])
        told = keys_in(BOOK, as_lists(thing))
        self.assertEqual(told, [D, DX, M, O])
        told.clear()
        self.assertEqual(keys_in(thing=thing, book=BOOK), [D, DX, M, O])
        many = [(("own", 10), ()), (("own", 2), ()), (("own", 2), ("x",))]
        self.assertEqual(keys_in(BOOK, ("under", many[0], ("under", many[2], many[1]))), many[1:] + many[:1])

    def test_errors(self):
        for thing in odd_things() + empties() + NO_KEYS + [("under", D), ("under", D, D, D), ("above", D, D)]:
            self.raises(BadThing, thing, depth_of, BOOK, thing)
            self.raises(BadThing, thing, keys_in, BOOK, thing)
            self.raises(BadThing, thing, knows, BOOK, [], thing)


class TestKnows(WrapCase):
    def test_rules(self):
        for things, thing, wanted in [
            ([], O, True), ([], OX, True), ([], (("own", 9), ("y", "x")), True), ([], D, False),
            ([D], D, True), ([D], DXY, True), ([DX], D, False), ([DX], DXY, True), ([], ("under", O, OX), True),
            ([], ("under", D, O), False), ([], ("under", O, D), False), ([D], ("under", D, ("under", O, DX)), True),
            ([("under", O, D)], D, True), ([("under", D, M)], M, False), ([("under", D, M), D], M, True),
            ([("under", D, ("under", M, DX))], ("under", M, DX), False),
            ([("under", D, ("under", M, DX)), D], ("under", M, DX), True),
            ([("under", D, ("under", M, DX)), M], ("under", D, ("under", M, DX)), True),
            ([("under", DX, M), ("under", M, D), DX], D, True), ([("under", D, D)], D, False),
            ([("under", D, M)], ("under", O, ("under", D, M)), True), ([("under", DXY, M), D], M, True),
        ]:
            self.says(wanted, knows(BOOK, things, thing))
            self.says(wanted, knows(BOOK, tuple(things), as_lists(thing)))
            self.says(wanted, knows(BOOK, as_lists(things), thing))
            self.assertEqual(plain_knows(things, thing), wanted)

    def test_errors(self):
        for things in [None, "a", {D}, {D: 1}, 1, Hostile()]:
            self.raises(BadThings, 0, knows, BOOK, things, None)
        for thing in odd_things() + empties() + NO_KEYS:
            self.raises(BadThings, 1, knows, BOOK, [D, thing, None], None)
        self.raises(BadThings, 0, knows, BARE, [DX], D)
        self.says(True, knows(thing=D, things=[D], book=BARE))

    def test_changes_nothing(self):
        things = as_lists([("under", O, D), DX])
        knows(BOOK, things, D)
        self.assertEqual(things, as_lists([("under", O, D), DX]))

    def test_as_the_rules_say(self):
        universe = things_of(keys_of([("given", 0), ("made", 0), ("own", 0)], ["x"], 1), 2)
        for count in range(60):
            dice = Dice(count)
            things = dice.some(universe, dice.number(5))
            known = saturated(things, universe)
            for thing in universe:
                self.says(thing in known, knows(BOOK, things, thing))
            for thing in dice.some(universe, 20):
                self.assertEqual(plain_knows(things, thing), thing in known)

    def test_deeper_ones(self):
        keys = keys_of([("given", 0), ("given", 1), ("made", 3), ("own", 1)], ["x", "y"], 2)
        for count in range(150):
            dice = Dice(count)
            things = []
            for _ in range(2 + dice.number(6)):
                thing = dice.one(keys)
                for key in dice.some(keys, dice.number(4)):
                    thing = ("under", key, thing)
                things.append(thing)
            asked = sorted(set().union(*[parts(thing) for thing in things]), key=repr) + dice.some(keys, 5)
            for thing in asked:
                self.says(plain_knows(things, thing), knows(BOOK, things, thing))
