"""14.4 to 14.6: levels, the least ones, bars, a shortest one."""

from tests.plainrules import all_asked, plain_states
from tests.plaintiers import all_levels, fewest_steps, plain_is_bar, plain_is_levels, plain_steps
from tests.plainwords import plain_reach
from tests.samples import all_permits
from tests.test_tiers import BARE, BOOK, START, PERMITS, TIERS, some_tiers
from tests.tools import Hostile, Odd, WrapCase, as_lists, as_tuples, empties, odd_things
from underwraps.books import Book
from underwraps.levels import is_bar, is_levels, least_levels, shortest_bar

COPIED = Book(["data", "kek"], [], PERMITS + [("copy", "kek", "data")])
BAR = [(("wrap", "kek", "data"), "on"), (("copy", "kek", "data"), "back")]
WIDE = Book(["a", "b"], ["x"], [
    ("make", "a"), ("bring", "a"), ("show", "b"), ("copy", "a", "b"), ("derive", "a", "x", "b"), ("wrap", "a", "b"),
    ("unwrap", "b", "a"), ("seal", "a"), ("open", "b"), ("wrap", "a", "a"),
])


class TestExample(WrapCase):
    def test_14_6(self):
        self.assertEqual(least_levels(BOOK, START), TIERS)
        self.says(True, is_bar(COPIED, START, BAR))
        self.assertIsNone(least_levels(COPIED, START))
        ringed = Book(["data", "kek"], [], [("wrap", "kek", "kek"), ("unwrap", "kek", "kek")])
        self.says(True, is_bar(ringed, START, [(("wrap", "kek", "kek"), "on")]))
        self.assertEqual(len(shortest_bar(ringed, START)), 1)


class TestLevels(WrapCase):
    def test_ordinary(self):
        self.says(True, is_levels(BOOK, START, TIERS))
        self.says(True, is_levels(thing={"known": 0, "kek": 2, "data": 1}, start=START, book=BOOK))
        for levels in [{**TIERS, "data": 0}, {**TIERS, "kek": 1}, {"data": 2, "kek": 3, "known": 1}, {"data": 0, "kek": 1, "known": 0}]:
            self.says(False, is_levels(BOOK, START, levels))
        self.says(False, is_levels(BOOK, [["data", "kek"]], TIERS))
        free = Book(["data", "kek"], [], PERMITS[:3])
        for levels, right in [({"data": 7, "kek": 8, "known": 0}, True), ({"data": 0, "kek": 1, "known": 0}, True),
                              ({"data": 7, "kek": 8, "known": 1}, False), ({"data": 1, "kek": 0, "known": 0}, False)]:
            self.says(right, is_levels(free, START, levels))
        self.assertEqual(least_levels(free, START), {"data": 0, "kek": 1, "known": 0})

    def test_edges(self):
        self.assertEqual(least_levels(BARE, []), {"known": 0})
        self.says(True, is_levels(BARE, [[]], {"known": 0}))
        self.says(False, is_levels(BARE, [[]], {"known": 1}))
        self.assertEqual(least_levels(start=((), ["a"]), book=Book(["a"], ["x"], [])), {"a": 0, "known": 0})
        self.assertIsNone(least_levels(Book(["a"], [], [("wrap", "a", "a")]), []))
        # The states that "known" is joined to may not be below it.
        self.assertIsNone(least_levels(Book(["a", "b"], [], [("show", "a"), ("wrap", "a", "b")]), []))
        self.assertEqual(least_levels(Book(["a", "b"], [], [("wrap", "a", "b"), ("bring", "b")]), []), {"a": 1, "b": 0, "known": 0})
        chain = Book(["a", "b", "c"], [], [("wrap", "a", "b"), ("wrap", "b", "c")])
        self.assertEqual(least_levels(chain, []), {"a": 2, "b": 1, "c": 0, "known": 0})

    def test_any_object(self):
        wrong = [
            {}, {"data": 1, "kek": 2}, {**TIERS, "more": 0}, {**TIERS, "data": True}, {**TIERS, "known": False}, {**TIERS, "data": 1.0},
            {**TIERS, "data": "1"}, {**TIERS, "data": None}, {**TIERS, "data": Hostile()}, list(TIERS.items()), (TIERS, [0, 0, 1]), Odd(),
            {"data": -1, "kek": 0, "known": 0}, {1: 1, "kek": 2, "known": 0}, {"datas": 1, "kek": 2, "known": 0}, set(TIERS),
        ]
        for thing in odd_things() + empties() + wrong:
            self.says(False, is_levels(BOOK, START, thing))
        self.says(False, is_levels(Book(["a"], [], [("seal", "a")]), [], {"a": True, "known": 0}))
        self.says(False, is_levels(Book(["a"], [], [("show", "a")]), [], {"a": False, "known": 0}))
        self.says(True, is_levels(Book(["a"], [], [("seal", "a")]), [], {"a": 1, "known": 0}))

    def test_among_all_levels(self):
        said = {True: 0, False: 0}
        for count in range(260):
            dice, book, start = some_tiers(count)
            every, states = all_levels(book, start), plain_states(book)
            told = least_levels(book, start)
            self.assertEqual(told is not None, bool(every))
            if told is not None:
                self.assertEqual(told, {state: min([levels[state] for levels in every]) for state in states})
                self.assertEqual(list(told), states)
            for _ in range(5):
                levels = {state: dice.number(3) for state in states}
                levels = dice.one(every) if every and dice.number(2) else levels
                wanted = plain_is_levels(book, start, levels)
                self.says(wanted, is_levels(book, start, levels))
                said[wanted] += 1
            # No key of a role above 0 ever comes out.
            for levels in every[:5]:
                for asked in all_asked(book, start, 1):
                    states = plain_reach(book, start, asked)
                    if "known" in states:
                        self.assertEqual({levels[state] for state in states}, {0})
        self.assertGreater(min(said.values()), 200)


class TestBars(WrapCase):
    def test_each_step(self):
        start = [["a"], ["a", "b"]]
        for step, begin, end, fall in plain_steps(WIDE, start):
            right = (begin == end and fall != 0) or (begin == "known" and fall > 0)
            self.says(right, is_bar(WIDE, start, [step]))
            self.says(False, is_bar(WIDE, start, [step, (step[0], {"on": "back", "back": "on"}[step[1]])]))
        walk = [(("bring", "a"), "on"), (("wrap", "a", "b"), "on")]
        self.says(True, is_bar(WIDE, start, walk))
        self.says(True, is_bar(thing=as_lists(walk), start=start, book=WIDE))
        self.says(True, is_bar(thing=as_tuples(walk), start=start, book=WIDE))
        self.says(False, is_bar(WIDE, start, walk[1:]))
        self.says(False, is_bar(WIDE, start, walk[::-1]))
        # A fall below 0 from "known" says nothing, nor does a round without a fall.
        self.says(False, is_bar(WIDE, start, [(("bring", "a"), "on"), (("unwrap", "b", "a"), "back")]))
        self.says(False, is_bar(WIDE, start, [(("given", 1, "a", "b"), "on"), (("copy", "a", "b"), "back")]))
        for walk, right in [
            ([(("given", 1, "b", "a"), "on"), (("wrap", "a", "b"), "on")], True), ([(("given", 0, "b", "a"), "on"), (("wrap", "a", "b"), "on")], False),
            ([(("given", 1, "a", "b"), "on"), (("wrap", "a", "b"), "back")], True), ([(("given", 0, "a", "b"), "on"), (("wrap", "a", "b"), "back")], False),
            ([(("given", 1, "a", "a"), "on"), (("wrap", "a", "a"), "on")], False), ([(("given", 2, "a", "b"), "on"), (("wrap", "a", "b"), "back")], False),
        ]:
            self.says(right, is_bar(WIDE, start, walk))
        self.says(True, is_bar(WIDE, start, [(("seal", "a"), "back"), (("bring", "a"), "back")]))
        self.says(True, is_bar(WIDE, start, [(("open", "b"), "on"), (("show", "b"), "back")]))

    def test_none(self):
        right = (("wrap", "a", "a"), "on")
        self.says(True, is_bar(WIDE, [["a"], ["a", "b"]], [right]))
        wrong = [
            (("make", "a"), "on"), (("wrap", "b", "b"), "on"), (("wrap", "a", "a"), "off"), (("wrap", "a", "a"), True), (("wrap", "a", "a"),),
            (("wrap", "a", "a"), "on", "on"), (("given", 0, "a", "a"), "on"), (("given", 0, "a", "b"), "on"), (("given", 2, "a", "b"), "on"),
            (("given", True, "a", "b"), "on"), (("given", "1", "a", "b"), "on"), (("given", 1, "a"), "on"), (("given", 1, "a", "known"), "on"),
            (("given", -1, "a", "b"), "on"), (("given", 1, "a", "b", "b"), "on"), (("given", 1, "a", Hostile()), "on"), ("wrap", "on"),
            (Hostile(), "on"), (("wrap", "a", "a"), Hostile()), ((Hostile(), "a", "a"), "on"), Hostile(), None, "on", ("on", ("wrap", "a", "a")),
            (("wrap", "a", Hostile()), "on"), (("given", Hostile(), "a", "b"), "on"), (("given", 1, Hostile(), "b"), "on"), (("given", 1, None, "b"), "on"), (("given", 1, ["a"], "b"), "on"), {right: 0}, (None, "on"),
            (("wrap", "a", "a"), "On"), (("wrap", "a", "a"), None), (("wrap", "a", "a"), b"on"), (("wrap", "a", "a"), ["on"]),
        ]
        for step in wrong:
            self.says(False, is_bar(WIDE, [["a"], ["a", "b"]], [step]))
            self.says(False, is_bar(WIDE, [["a"], ["a", "b"]], [right, step]))
            self.says(False, is_bar(WIDE, [["a"], ["a", "b"]], [step, right]))
        for thing in odd_things() + empties() + [right, {right: 0}, "", {0: right}, iter([right]), {right}]:
            self.says(False, is_bar(WIDE, [["a"], ["a", "b"]], thing))

    def test_shortest_among_all_walks(self):
        lengths = {}
        for count in range(260):
            dice, book, start = some_tiers(count)
            states = plain_states(book)
            told, fewest = shortest_bar(book, start), fewest_steps(book, start, len(states))
            self.assertEqual(told and len(told), fewest)
            self.assertEqual(told is None, least_levels(book, start) is not None)
            lengths[fewest] = lengths.get(fewest, 0) + 1
            if told is not None:
                self.says(True, is_bar(book, start, told))
                self.assertTrue(plain_is_bar(book, start, told))
                self.assertEqual(repr(told), repr([((*why,), way) for why, way in told]))
                self.assertEqual(told, shortest_bar(book, as_lists(start)))
            steps = [step for step, _, _, _ in plain_steps(book, start)]
            for _ in range(8 if steps else 0):
                walk = dice.some(steps, 1 + dice.number(3))
                self.says(plain_is_bar(book, start, walk), is_bar(book, start, walk))
        self.assertGreater(len(lengths), 3)
        self.assertGreater(lengths[None], 20)

    def test_walks_that_are_let(self):
        bars = 0
        for count in range(200):
            dice, book, start = some_tiers(count)
            steps = plain_steps(book, start)
            for _ in range(10 if steps else 0):
                row = [dice.one(steps)]
                while dice.number(5):
                    row.append(dice.one([step for step in steps if step[1] == row[-1][2]]))
                walk = [step for step, _, _, _ in row]
                wanted = plain_is_bar(book, start, walk)
                self.says(wanted, is_bar(book, start, walk))
                bars += wanted
        self.assertGreater(bars, 100)

    def test_edges(self):
        self.assertIsNone(shortest_bar(BARE, []))
        self.assertIsNone(shortest_bar(start=((),), book=Book(["a"], ["x"], [("make", "a"), ("copy", "a", "a")])))
        every = Book(["a", "b"], ["x"], all_permits(["a", "b"], ["x"]))
        self.assertEqual(len(shortest_bar(every, [])), 1)
        chain = Book(["a", "b", "c"], [], [("wrap", "a", "b"), ("copy", "b", "c"), ("copy", "c", "a")])
        self.assertEqual(len(shortest_bar(chain, [])), 3)
        given = Book(["a", "b"], [], [("wrap", "a", "b")])
        walk = shortest_bar(given, [[], ["a", "b"]])
        self.assertEqual(len(walk), 2)
        self.says(True, is_bar(given, [[], ["a", "b"]], walk))
