"""4.4 to 4.6: the gist, chests, what one key more tells."""

from tests.plain import is_under, keys_of, plain_knows, prefixes, saturated, things_of
from tests.tools import Dice, Hostile, WrapCase, as_lists, as_tuples, empties, odd_things
from underwraps.books import Book
from underwraps.chests import chest_fault, counts, enough_keys, gist
from underwraps.errors import BadBook, BadChest, BadThing, BadThings
from underwraps.things import knows
from underwraps.ways import way_to

BOOK = Book([], ["x"], [])
D, DX, DXX = [(("given", 0), word) for word in ((), ("x",), ("x", "x"))]
M, O, OX = (("made", 0), ()), (("own", 0), ()), (("own", 0), ("x",))
A, B, C = ("under", O, D), ("under", DX, M), ("under", M, D)
BASES = [("given", 0), ("made", 0), ("own", 0)]
UNIVERSE = things_of(keys_of(BASES, ["x"], 1), 2)


def plain_counts(keys, closed, universe):
    """Return what of a universe counts by a chest, by the rules of 4.5."""
    count = set(closed)
    for thing in universe:
        if not is_under(thing) and (thing[0][0] == "own" or any(key in keys for key in prefixes(thing))):
            count.add(thing)
    while True:
        more = {t for t in universe if is_under(t) and t[1] in count and t[2] in count} - count
        if not more:
            return count
        count |= more


class TestExample(WrapCase):
    def test_4_7(self):
        self.assertEqual(gist(BOOK, [B, A]), ([D, M], []))
        self.assertEqual(gist(BOOK, [B, C]), ([], [B, C]))
        self.assertIsNone(chest_fault(BOOK, [B, C], ([], [B, C])))
        self.assertEqual(enough_keys(BOOK, [B, C], D), [DX, M])


class TestGist(WrapCase):
    def test_ordinary(self):
        self.assertEqual(gist(BOOK, []), ([], []))
        self.assertEqual(gist(BOOK, [O, OX, ("under", O, OX)]), ([], []))
        self.assertEqual(gist(BOOK, [DX, D, DXX, D]), ([D], []))
        self.assertEqual(gist(BOOK, [B, B, ("under", DX, O), ("under", D, ("under", O, D))]), (
            [], [("under", DX, M), ("under", DX, O), ("under", D, ("under", O, D))],
        ))
        self.assertEqual(gist(BOOK, [("under", O, ("under", O, B))]), ([], [B]))
        self.assertEqual(gist(things=as_lists([DX, B]), book=BOOK), ([DX, M], []))

    def test_told_as_tuples_and_new(self):
        told = gist(BOOK, as_lists([DXX, B, DX, C]))
        self.assertIs(type(told), tuple)
        self.assertEqual([type(part) for part in told], [list, list])
        self.assertEqual(told, tuple([[as_tuples(thing) for thing in part] for part in told]))
        told[0].clear()
        told[1].append(1)
        self.assertEqual(gist(BOOK, [DXX, B, DX, C]), ([D, M], []))

    def test_errors(self):
        for thing in odd_things() + empties():
            self.raises(BadBook, thing, gist, thing, None)
            self.raises(BadThings, 2, gist, BOOK, [A, D, thing, None])
        for things in [None, "ab", {A}, 3, Hostile()]:
            self.raises(BadThings, 0, gist, BOOK, things)

    def test_it_holds(self):
        told = []
        for count in range(90):
            dice = Dice(count)
            things = dice.some(UNIVERSE, dice.number(6))
            keys, closed = gist(BOOK, things)
            known = saturated(things, UNIVERSE)
            self.assertEqual(saturated(keys + closed, UNIVERSE), known)
            self.assertEqual(keys, sorted([key for key in known if not is_under(key) and key[0][0] != "own" and not (
                key[1] and (key[0], key[1][:-1]) in known)]))
            self.assertEqual(sorted(closed, key=repr), sorted([
                thing for thing in known if is_under(thing) and thing[1] not in known], key=repr))
            for thing in keys + closed:
                others = [other for other in keys + closed if other != thing]
                self.assertNotIn(thing, saturated(others, UNIVERSE))
                self.assertFalse(knows(BOOK, others, thing))
            told.append(((keys, closed), known))
        for first, known in told:
            for second, other in told:
                self.assertEqual(first == second, known == other)

    def test_things_ascend(self):
        things = [("under", DX, ("under", O, M)), ("under", DX, O), ("under", D, ("under", M, M)), ("under", D, M)]
        self.assertEqual(gist(BOOK, things)[1], [things[3], things[1], things[2], things[0]])


class TestCounts(WrapCase):
    def test_ordinary(self):
        chest = ([DX], [("under", M, D)])
        for thing, wanted in [
            (O, True), (OX, True), (DX, True), (DXX, True), (D, False), (M, False), (C, True), (B, False),
            (("under", DX, C), True), (("under", DX, M), False), (("under", M, C), False), (("under", OX, DXX), True),
            (("under", D, DX), False), (("under", O, ("under", DX, ("under", O, C))), True),
        ]:
            self.says(wanted, counts(BOOK, chest, thing))
            self.says(wanted, counts(BOOK, as_lists(chest), as_lists(thing)))
            self.says(wanted, counts(thing=thing, chest=as_tuples(chest), book=BOOK))
        self.says(False, counts(BOOK, ([], []), D))
        self.says(True, counts(BOOK, ([D, D], [C, C]), C))

    def test_errors(self):
        for thing in odd_things() + empties():
            self.raises(BadBook, thing, counts, thing, None, None)
            self.raises(BadThing, thing, counts, BOOK, ([], []), thing)
        for chest in odd_things() + [
            [], ([],), ([], [], []), ([B], []), ([], [D]), ([D], [B, D]), ([None], []), ([], [None]), ("", ""), (D, B),
            ([], {}), (set(), []), {0: [], 1: []}, ([Hostile()], []), ([], [Hostile()]), ([D], [("under", D)]),
        ]:
            self.raises(BadChest, chest, counts, BOOK, chest, None)

    def test_as_a_plain_reading(self):
        for count in range(80):
            dice = Dice(count)
            keys = dice.some([thing for thing in UNIVERSE if not is_under(thing)], dice.number(3))
            closed = dice.some([thing for thing in UNIVERSE if is_under(thing)], dice.number(4))
            wanted = plain_counts(keys, closed, UNIVERSE)
            for thing in UNIVERSE:
                self.says(thing in wanted, counts(BOOK, (keys, closed), thing))


class TestChestFault(WrapCase):
    def test_ordinary(self):
        self.assertIsNone(chest_fault(BOOK, [], ([], [])))
        self.assertIsNone(chest_fault(BOOK, [O, DXX], [[DX], []]))
        self.assertEqual(chest_fault(BOOK, [O, D, M], ([DX], [])), ("thing", 1))
        self.assertEqual(chest_fault(BOOK, [B, M], ([DX], [B, C])), ("thing", 1))
        self.assertEqual(chest_fault(BOOK, [B], ([DX], [C, B])), ("open", 1))
        self.assertEqual(chest_fault(BOOK, [], ([], [B, A, A])), ("open", 1))
        self.assertEqual(chest_fault(chest=((), (C,)), things=(), book=BOOK), None)

    def test_any_object(self):
        for chest in odd_things() + [
            [], [[]], ([], [], []), ([B], []), ([], [D]), ([D], [B, D]), ([None], []), ("", ""), ([], {}), {0: []},
            ([Hostile()], []), ([], [Hostile()]), ([], "under"),
        ]:
            self.assertEqual(chest_fault(BOOK, [D], chest), ("form", 0))

    def test_errors(self):
        for thing in odd_things() + empties():
            self.raises(BadBook, thing, chest_fault, thing, None, None)
            self.raises(BadThings, 1, chest_fault, BOOK, [A, thing], None)
        for things in [None, "ab", {A}, 3, Hostile()]:
            self.raises(BadThings, 0, chest_fault, BOOK, things, None)

    def test_it_holds(self):
        keys = [thing for thing in UNIVERSE if not is_under(thing)]
        shut = 0
        for count in range(60):
            dice = Dice(count)
            things = dice.some(UNIVERSE, dice.number(5))
            known = saturated(things, UNIVERSE)
            chest = gist(BOOK, things)
            self.assertIsNone(chest_fault(BOOK, things, chest))
            for thing in UNIVERSE:
                self.says(thing in known, counts(BOOK, chest, thing))
                self.assertEqual(way_to(BOOK, things, thing) is None, not counts(BOOK, chest, thing))
            for _ in range(20):
                more = dice.some(UNIVERSE, dice.number(4))
                closed = [thing for thing in things + more if is_under(thing) and dice.number(4)]
                other = ([thing for thing in chest[0] if dice.number(4)] + dice.some(keys, dice.number(3)), closed)
                count_by = plain_counts(*other, UNIVERSE + things)
                fault = [("thing", i) for i, thing in enumerate(things) if thing not in count_by]
                fault += [("open", i) for i, thing in enumerate(closed) if thing[1] in count_by]
                self.assertEqual(chest_fault(BOOK, things, other), (fault + [None])[0])
                if not fault:
                    shut += 1
                    self.assertLessEqual(known, count_by)
        self.assertGreater(shut, 50)


class TestEnoughKeys(WrapCase):
    def test_ordinary(self):
        self.assertEqual(enough_keys(BOOK, [], O), [])
        self.assertEqual(enough_keys(BOOK, [D], DX), [])
        self.assertEqual(enough_keys(BOOK, [], DX), [DX])
        self.assertEqual(enough_keys(BOOK, [DX], D), [D])
        self.assertEqual(enough_keys(BOOK, [], ("under", DX, DXX)), [DX])
        self.assertEqual(enough_keys(BOOK, [], ("under", DX, M)), [])
        self.assertEqual(enough_keys(BOOK, [B], M), [DX, M])
        self.assertEqual(enough_keys(Book([], [], []), [], D), [D])
        self.assertEqual(enough_keys(thing=as_lists(D), things=as_lists((B, C)), book=BOOK), [DX, M])

    def test_where_two_part(self):
        book = Book([], ["x", "y"], [])
        key, by_x, by_y = [(("given", 0), word) for word in (("x",), ("x", "x"), ("x", "y"))]
        self.assertEqual(enough_keys(book, [], ("under", by_x, by_y)), [key])
        self.assertEqual(enough_keys(book, [("under", by_y, D), ("under", by_x, D)], D), [by_x, by_y])
        self.assertEqual(enough_keys(book, [("under", by_y, ("under", by_x, M))], M), [key, M])

    def test_told_new(self):
        enough_keys(BOOK, [B, C], D).clear()
        self.assertEqual(enough_keys(BOOK, [B, C], D), [DX, M])

    def test_errors(self):
        for thing in odd_things() + empties():
            self.raises(BadBook, thing, enough_keys, thing, None, None)
            self.raises(BadThings, 1, enough_keys, BOOK, [A, thing], None)
            self.raises(BadThing, thing, enough_keys, BOOK, [A], thing)
        for things in [None, "ab", {A}, 3, Hostile()]:
            self.raises(BadThings, 0, enough_keys, BOOK, things, None)

    def test_it_holds(self):
        book = Book([], ["x", "y"], [])
        some = keys_of(BASES, ["x", "y"], 2)
        more = keys_of([("given", 0), ("made", 0), ("made", 1)], ["x", "y"], 3)
        found = 0
        for count in range(120):
            dice = Dice(count)
            things = []
            for _ in range(1 + dice.number(5)):
                thing = dice.one(some)
                for key in dice.some(some, 1 + dice.number(3)):
                    thing = ("under", key, thing)
                things.append(thing)
            goal = dice.one(some + things[:1] + [("under", dice.one(some), dice.one(some))])
            enough = enough_keys(book, things, goal)
            standing = [key for thing in things + [goal] for key in thing_keys(thing)]
            if plain_knows(things, goal):
                self.assertEqual(enough, [])
                continue
            found += len(enough)
            tells = {key: plain_knows(things + [key], goal) for key in more}
            deep = [key for key in more if tells[key] and not any(
                plain_knows(things + [(key[0], key[1] + (label,))], goal) for label in ("x", "y"))]
            self.assertEqual(enough, sorted(deep))
            for key in more:
                self.assertEqual(tells[key], any(key in prefixes(other) for other in enough))
            for key in enough:
                self.assertTrue(any(key in prefixes(other) for other in standing))
        self.assertGreater(found, 60)


def thing_keys(thing):
    return [thing[1]] + thing_keys(thing[2]) if is_under(thing) else [thing]
