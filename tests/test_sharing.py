"""15.5 to 15.7: shared keys apart, and which must be shared."""

from itertools import combinations

from tests.plainhouses import WORDS, comes_out_sharing, plain_apart, plain_shared, some_houses
from tests.plainrules import all_asked
from tests.plainwords import plain_reach
from tests.test_several import BOOKS, NO_INDEX, STARTS
from tests.tools import Dice, Hostile, Odd, WrapCase, as_lists, as_tuples, empties, odd_things
from underwraps.books import Book
from underwraps.refusals import BadBooks, BadHeld, BadSome, BadStarts, NoHouse
from underwraps.settling import reach
from underwraps.sharing import apart, sharings


class TestExample(WrapCase):
    def test_15_7(self):
        self.assertEqual(sharings(BOOKS, STARTS, 0, ("d", ())), [[0]])
        self.assertEqual(apart(BOOKS, STARTS, [0]), [[["w"], []], [[], ["o"]]])


THREE = [Book(["a", "b"], ["x"], []), Book(["a"], ["x"], []), Book(["c"], ["x"], [])]
HELD = [[["a"], ["a", "b"], [], ["b"]], [["a"], [], ["a"], ["a"]], [["c"], ["c"], [], []]]


class TestApart(WrapCase):
    def test_ordinary(self):
        self.assertEqual(apart(THREE, HELD, []), HELD)
        self.assertEqual(apart(THREE, HELD, [0, 1]), [
            [["a"], ["a", "b"], [], ["b"], [], [], []],
            [[], [], ["a"], ["a"], ["a"], [], []],
            [[], [], [], [], [], ["c"], ["c"]],
        ])
        self.assertEqual(apart(THREE, HELD, [3]), [
            [["a"], ["a", "b"], [], ["b"], []], [["a"], [], ["a"], [], ["a"]], [["c"], ["c"], [], [], []],
        ])
        for shape in (as_lists, as_tuples):
            self.assertEqual(apart(some=shape([0, 3]), starts=shape(HELD), books=shape(THREE)), apart(THREE, HELD, [0, 3]))

    def test_edges(self):
        bare = Book([], [], [])
        self.assertEqual(apart([bare], [[]], ()), [[]])
        self.assertEqual(apart([bare, bare], [[[]], [[]]], []), [[[]], [[]]])
        told = apart(THREE, HELD, [])
        told[0][0].append("b")
        self.assertEqual(apart(THREE, HELD, []), HELD)

    def test_bad_some(self):
        for thing in odd_things() + [
            [2], [4], [0, 2], [1, 0], [0, 0], [3, 1], [True], [False], [0, True], [-1], [0.0], ["0"], [None], [Hostile()], {0}, {0: 0}, 0,
            None, "0", range(1), iter([0]), [[0]], (0, 1, 2), Odd(), [0, Hostile()], [10 ** 20],
        ]:
            self.raises(BadSome, thing, apart, THREE, HELD, thing)
        self.raises(BadBooks, 0, apart, [], None, None)
        self.raises(BadStarts, 1, apart, THREE, [HELD[0], None], Hostile())

    def test_as_a_plain_reading(self):
        for count in range(120):
            dice = Dice(count)
            books, starts = some_houses(dice)
            some = dice.part(plain_shared(starts))
            self.assertEqual(apart(books, starts, some), plain_apart(starts, some)[0])


class TestSharings(WrapCase):
    def test_bad_held(self):
        for house, held in [(0, [0, 1, 3]), (1, [0, 2, 3]), (2, [0, 1])]:
            for key in range(5):
                if key in held:
                    self.assertEqual(sharings(THREE, HELD, house, (key, ())), [])
                else:
                    asked = (key, ())
                    self.raises(BadHeld, asked, sharings, THREE, HELD, house, asked)
        for asked in odd_things() + empties() + [("a", ()), ("a0", ()), (0, ("y",)), (0, "x"), (True, ()), ("c", ())]:
            self.raises(BadHeld, asked, sharings, THREE, HELD, 1, asked)
        for thing in NO_INDEX:
            self.raises(NoHouse, thing, sharings, THREE[:2], HELD[:2], thing, Hostile())
        self.raises(BadBooks, 1, sharings, [THREE[0], None], None, None, None)
        self.raises(BadStarts, 0, sharings, THREE, None, None, None)

    def test_edges(self):
        shown = [Book(["a"], ["x"], [("show", "a")]), Book(["a"], ["x"], [])]
        for asked, told in [((0, ()), [[]]), ((0, ["x"]), [[]]), (("known", ()), [[]]), (("known", ("x", "x")), [[]])]:
            self.assertEqual(sharings(asked=asked, house=0, starts=[[["a"]], [["a"]]], books=shown), told)
        self.assertEqual(sharings(shown, [[["a"]], [["a"]]], 1, (0, ())), [[0]])
        self.assertEqual(sharings(shown, [[["a"]], [["a"]]], 1, ("known", ())), [[]])
        self.assertEqual(sharings(shown, [[["a"], []], [[], ["a"]]], 1, (1, ())), [])
        self.assertEqual(sharings(shown[:1], [[["a"]]], 0, (0, ())), [[]])
        self.assertEqual(sharings(shown[1:], [[["a"], []]], 0, (0, ())), [])

    def test_one_of_several_lists(self):
        wraps = Book(["d", "w"], [], [("make", "d"), ("wrap", "w", "d")])
        opens = Book(["o"], [], [("open", "o")])
        starts = [[["w"], ["w"], []], [["o"], ["o"], ["o"]], [[], ["o"], ["o"]]]
        self.assertEqual(sharings([wraps, opens, opens], starts, 0, ("d", ())), [[0], [1]])
        # Both at once: wrapped in one house, had otherwise in the second one, opened in the third one.
        turns = Book(["u", "k"], [], [("unwrap", "u", "k"), ("show", "k")])
        starts = [[["w"], []], [["u"], ["k"]], [[], ["o"]]]
        self.assertEqual(sharings([wraps, turns, opens], starts, 0, ("d", ())), [[0]])
        relays = Book(["u", "k", "v"], [], [("unwrap", "u", "k"), ("wrap", "v", "k")])
        starts = [[["w"], []], [["u"], ["v"]], [[], ["o"]]]
        self.assertEqual(sharings([wraps, relays, opens], starts, 0, ("d", ())), [[0, 1]])
        starts = [[["w"], ["w"], []], [["u"], [], ["v"]], [[], ["o"], ["o"]]]
        self.assertEqual(sharings([wraps, relays, opens], starts, 0, ("d", ())), [[0, 2], [1]])

    def test_by_all_parts(self):
        sizes = {}
        for count in range(170):
            dice = Dice(count)
            books, starts = some_houses(dice, 3, WORDS[count % 2 * 3:])
            shared = plain_shared(starts)
            parts = [list(some) for many in range(len(shared) + 1) for some in combinations(shared, many)]
            for house, book in enumerate(books):
                for asked in all_asked(book, starts[house], 1):
                    if isinstance(asked[0], int) and not starts[house][asked[0]]:
                        self.raises(BadHeld, asked, sharings, books, starts, house, asked)
                        continue
                    out = [some for some in parts if comes_out_sharing(books, starts, house, asked, some)]
                    least = [some for some in out if not any([set(other) < set(some) for other in out])]
                    told = sharings(books, starts, house, asked)
                    self.assertEqual(told, sorted(least))
                    for some in parts:
                        self.assertEqual(some in out, any([set(one) <= set(some) for one in told]))
                    alone = "known" in plain_reach(book, starts[house], asked)
                    self.assertEqual(told == [[]], alone)
                    self.assertEqual([] in told, alone)
                    self.assertEqual("known" in reach(book, starts[house], asked), alone)
                    sizes[str([len(one) for one in told])] = sizes.get(str([len(one) for one in told]), 0) + 1
        self.assertGreater(sizes["[]"], 50)
        self.assertGreater(sizes["[0]"], 50)
        self.assertGreater(sizes["[1]"], 20)
