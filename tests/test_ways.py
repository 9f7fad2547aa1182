"""4.3: ways."""

from tests.plain import keys_of, parts, plain_knows, saturated, things_of, way_things
from tests.tools import Dice, Hostile, WrapCase, as_lists, empties, odd_things
from underwraps.books import Book
from underwraps.errors import BadBook, BadThing, BadThings
from underwraps.ways import way_fault, way_to

BOOK = Book([], ["x"], [])
D, DX = (("given", 0), ()), (("given", 0), ("x",))
M, O = (("made", 0), ()), (("own", 0), ())
A, B, C = ("under", O, D), ("under", DX, M), ("under", M, D)
WAY = [("own", 0), ("had", 1), ("open", 0, 1), ("next", 2, "x"), ("had", 0), ("open", 3, 4)]


class TestExample(WrapCase):
    def test_4_7(self):
        self.assertIsNone(way_fault(BOOK, [B, A], M, WAY))
        told = way_to(BOOK, [B, A], M)
        self.assertIsNone(way_fault(BOOK, [B, A], M, told))
        self.assertIsNone(way_to(BOOK, [B, C], D))
        self.assertIsNone(way_to(BOOK, [B, C], M))


class TestWayFault(WrapCase):
    def test_lists_for_tuples(self):
        self.assertIsNone(way_fault(BOOK, as_lists([B, A]), as_lists(M), as_lists(WAY)))
        self.assertIsNone(way_fault(BOOK, (B, A), M, tuple(WAY)))
        self.assertIsNone(way_fault(way=WAY, thing=M, things=[B, A], book=BOOK))

    def test_first_wrong_step(self):
        for at, step in [
            (0, ("own", -1)), (0, ("own", True)), (0, ("own", "0")), (0, ("own",)), (0, ("own", 0, 0)), (0, "own"),
            (1, ("had", 2)), (1, ("had", -1)), (1, ("had", False)), (1, ("had", None)), (1, ("next", 1, "x")),
            (2, ("open", 1, 0)), (2, ("open", 0, 2)), (2, ("open", 0, 0)), (2, ("open", 2, 1)), (2, ("open", 0, -1)),
            (2, ("open", False, 1)), (2, ("close", 1, 0)), (2, ("close", 0, 2)), (3, ("next", 2, "y")),
            (3, ("next", 1, "x")), (3, ("next", 3, "x")), (3, ("next", 2, ["x"])), (3, ("next", 2)),
            (5, ("open", 2, 4)), (5, ("open", 3, 1)), (5, ("lend", 3, 4)), (5, ("open", 3, 4, 4)), (5, (b"open", 3, 4)),
        ]:
            way = WAY[:at] + [step] + WAY[at + 1:]
            self.assertEqual(way_fault(BOOK, [B, A], M, way), at, step)
        self.assertEqual(way_fault(Book([], [], []), [A], D, [("own", 0), ("next", 0, "x")]), 1)

    def test_last_step(self):
        for many in range(6):
            self.assertEqual(way_fault(BOOK, [B, A], M, WAY[:many]), many)
        self.assertEqual(way_fault(BOOK, [B, A], D, WAY), 6)
        self.assertEqual(way_fault(BOOK, [B, A], M, WAY + [("own", 7)]), 7)
        self.assertIsNone(way_fault(BOOK, [], (("own", 7), ()), [("own", 7)]))
        self.assertEqual(way_fault(BOOK, [], (("own", 7), ()), [("own", 8)]), 1)

    def test_any_object(self):
        for thing in odd_things() + empties():
            # Some of the lists begin with a right step.
            self.assertIn(way_fault(BOOK, [B, A], M, thing), (0, 1) if isinstance(thing, list) else (0,))
            self.assertEqual(way_fault(BOOK, [B, A], M, WAY + [thing]), 6)
            self.assertEqual(way_fault(BOOK, [B, A], M, WAY[:3] + [thing] + WAY[4:]), 3)
        for way in [dict(enumerate(WAY)), "had", ("own", 0), set(WAY), iter(WAY)]:
            self.assertEqual(way_fault(BOOK, [B, A], M, way), 0)
        self.assertEqual(way_fault(BOOK, [], D, []), 0)

    def test_errors(self):
        for call in (way_fault, way_to):
            more = [WAY] if call is way_fault else []
            for thing in odd_things() + empties():
                self.raises(BadBook, thing, call, thing, None, None, *more)
                self.raises(BadThings, 1, call, BOOK, [A, thing, None], None, *more)
                self.raises(BadThing, thing, call, BOOK, [A], thing, *more)
            for things in [None, "ab", {A}, 3, Hostile()]:
                self.raises(BadThings, 0, call, BOOK, things, None, *more)

    def test_as_a_plain_reading(self):
        for count in range(400):
            dice = Dice(count)
            things = dice.some([A, B, C, D, DX, M, ("under", O, B), ("under", D, O)], dice.number(5))
            way = []
            for _ in range(dice.number(9)):
                known = way_things(things, ["x"], way)
                steps = [("had", dice.number(5)), ("own", dice.number(2)), ("next", dice.number(len(way) + 1), "x")]
                steps += [(word, dice.number(len(way) + 1), dice.number(len(way) + 1)) for word in ("open", "close")] * 2
                right = [step for step in steps if len(way_things(things, ["x"], way + [step])) > len(known)]
                way.append(dice.one(steps if dice.number(8) == 0 or not right else right))
            found = way_things(things, ["x"], way)
            goal = found[-1] if found and dice.number(4) else D
            wanted = len(found) if len(found) < len(way) or found[-1:] != [goal] else None
            self.assertEqual(way_fault(BOOK, things, goal, way), wanted)


class TestWayTo(WrapCase):
    def right(self, book, things, thing):
        way = way_to(book, things, thing)
        if way is None:
            return False
        self.assertIs(type(way), list)
        self.assertTrue(all(type(step) is tuple for step in way))
        self.assertIsNone(way_fault(book, things, thing, way))
        found = way_things(things, book.all_labels(), way)
        self.assertEqual(found[-1], thing)
        self.assertEqual(len(set(found)), len(way))
        return True

    def test_simple_ones(self):
        self.assertEqual(way_to(BOOK, [A, D], D), [("had", 1)])
        self.assertEqual(way_to(BOOK, [], (("own", 3), ())), [("own", 3)])
        self.assertEqual(way_to(things=(), thing=(("own", 3), ["x"]), book=BOOK), [("own", 3), ("next", 0, "x")])
        self.assertTrue(self.right(BOOK, [], ("under", O, ("under", O, O))))
        self.assertTrue(self.right(BOOK, [D, DX, D], ("under", DX, ("under", D, DX))))
        self.assertTrue(self.right(BOOK, [("under", DX, M), DX, D], ("under", DX, M)))

    def test_own_keys_that_were_had(self):
        own = (("own", 0), ("x",))
        self.assertTrue(self.right(BOOK, [("under", own, D), own], D))
        self.assertTrue(self.right(BOOK, [own, ("under", O, own)], ("under", own, own)))

    def test_keys_that_come_twice(self):
        for things in [
            [("under", DX, M), D, DX], [DX, ("under", DX, D), ("under", D, M)], [D, ("under", DX, DX), ("under", DX, M)],
            [("under", DX, M), ("under", M, D), ("under", O, DX)], [D, ("under", D, DX), ("under", DX, ("under", D, M))],
        ]:
            for thing in (D, DX, M, ("under", DX, M), ("under", M, DX), (("given", 0), ("x", "x"))):
                self.assertEqual(self.right(BOOK, things, thing), plain_knows(things, thing))

    def test_told_new(self):
        way_to(BOOK, [A], D).clear()
        self.assertEqual(way_fault(BOOK, [A], D, way_to(BOOK, [A], D)), None)

    def test_it_holds_way_exactly_if_known(self):
        universe = things_of(keys_of([("given", 0), ("made", 0), ("own", 0)], ["x"], 1), 2)
        for count in range(60):
            dice = Dice(count + 1000)
            things = dice.some(universe, dice.number(6))
            known = saturated(things, universe)
            for thing in universe:
                self.assertEqual(self.right(BOOK, things, thing), thing in known)

    def test_it_holds_deeper(self):
        book = Book([], ["x", "y"], [])
        keys = keys_of([("given", 0), ("given", 1), ("made", 3), ("own", 1)], ["x", "y"], 2)
        for count in range(150):
            dice = Dice(count + 2000)
            things = [dice.one(keys)]
            for _ in range(2 + dice.number(8)):
                thing = dice.one(keys)
                for key in dice.some(keys, dice.number(5)):
                    thing = ("under", key, thing)
                things.append(thing)
            things = dice.mixed(things)
            for thing in sorted(set().union(*[parts(thing) for thing in things]), key=repr):
                self.assertEqual(self.right(book, things, thing), plain_knows(things, thing))
