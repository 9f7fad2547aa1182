"""18.1, 18.2, 18.6, 18.7: keys told while the house runs, felling keys, heads."""

from tests.each import NO_ASKED
from tests.plainrules import all_asked
from tests.plaintiers import all_lots
from tests.plainwords import plain_reach
from tests.samples import all_permits, some_led
from tests.tools import Dice, Hostile, Odd, WrapCase, as_lists, as_tuples, empties, odd_things, ring
from underwraps.books import Book
from underwraps.errors import BadAsked
from underwraps.refusals import BadLot, BadRole
from underwraps.shuthouses import falls_shut
from underwraps.toldkeys import falls_running, felling_keys, heads, told_book
from underwraps.verdicts import verdict

BOOK = Book(["kek", "s", "top"], [], [("unwrap", "kek", "top"), ("wrap", "top", "s")])
START = [["kek"], ["s"]]
BARE = Book([], [], [])
NO_LOTS = [
    None, "ab", "", 0, True, {}, {0: 0}, {0}, Odd(), Hostile(), iter([0]), ring(), [1, 0], [0, 0], [-1], [True], [0, True], [False], [0.0],
    ["0"], [None], [[0]], [Hostile()], [Odd()], [10 ** 20], [0, None], range(2),
]


def some_told(count):
    """Return (dice, book, start): at most three given keys, some of no role; few keys come out by themselves."""
    if count % 3 == 0:
        dice, book, start = some_led(count, 5)
        return dice, book, start + [sorted(dice.part(book.all_roles()))[:1] for _ in range(dice.number(2))]
    dice = Dice(count)
    roles, labels = ["a", "b", "c", "d"][:2 + dice.number(3)], ["x"][:dice.number(2)]
    every = [permit for permit in all_permits(roles, labels) if permit[0] in ("wrap", "unwrap", "derive", "copy", "make", "seal")]
    wraps = [permit for permit in every if permit[0] == "wrap"]
    book = Book(roles, labels, sorted(set(dice.some(every, 1 + dice.number(4)) + dice.some(wraps, 2))))
    return dice, book, [sorted(set(dice.some(roles, dice.one([1, 1, 1, 2, 0])))) for _ in range(2 + dice.number(2))]


def plain_falls(book, start, lot, asked, role="zz"):
    """Tell whether an asked key falls while the house runs, by 18.1: in a book with a role more."""
    told = Book(book.all_roles() + [role], book.all_labels(), book.all_permits() + [("show", role)])
    rows = [sorted(row + [role]) if at in lot else row for at, row in enumerate(start)]
    return "known" in plain_reach(told, rows, asked)


class TestExample(WrapCase):
    def test_18_7(self):
        for at in (0, 1):
            self.assertEqual(verdict(BOOK, START, (at, ()), "known")[0], "never")
        self.says(True, falls_running(BOOK, START, [0], (1, ())))
        self.assertEqual(felling_keys(BOOK, START, (1, ())), [0, 1])
        self.assertEqual(heads(BOOK, START), [[0]])


class TestToldBook(WrapCase):
    def test_ordinary(self):
        for shape in (as_lists, as_tuples):
            told, start = told_book(role="t", lot=shape([1]), start=shape(START), book=BOOK)
            self.assertEqual(told, Book(["kek", "s", "t", "top"], [], BOOK.all_permits() + [("show", "t")]))
            self.assertEqual(repr(start), "[['kek'], ['s', 't']]")
        self.assertEqual(repr(told_book(BOOK, START, [0, 1], "abcdefgh")[1]), "[['abcdefgh', 'kek'], ['abcdefgh', 's']]")
        self.assertEqual(told_book(BOOK, START, (), "make")[1], START)
        self.assertEqual(told_book(BARE, [[]], [0], "a"), (Book(["a"], [], [("show", "a")]), [["a"]]))
        self.assertEqual(told_book(BARE, [], [], "z")[0], Book(["z"], [], [("show", "z")]))
        self.assertEqual(type(told_book(BARE, [], [], "z")), tuple)

    def test_bad_role(self):
        for thing in odd_things() + empties() + ["kek", "known", "Kek", "abcdefghi", "1a", "", "a b", "a.b", ("t",), "top"]:
            if thing not in ("a", "under", "make") if isinstance(thing, str) else True:
                self.raises(BadRole, thing, told_book, BOOK, START, [0], thing)

    def test_bad_lot(self):
        for thing in NO_LOTS + [[2], [0, 1, 2]]:
            self.raises(BadLot, thing, told_book, BOOK, START, thing, Hostile())
            self.raises(BadLot, thing, falls_running, BOOK, START, thing, Hostile())
        lot = [0]
        self.raises(BadLot, lot, falls_running, BARE, [], lot, ("known", ()))

    def test_bad_asked(self):
        for thing in NO_ASKED + [(2, ()), ("kek", ())]:
            self.raises(BadAsked, thing, falls_running, BOOK, START, [0], thing)
            self.raises(BadAsked, thing, felling_keys, BOOK, START, thing)


class TestRunning(WrapCase):
    def test_edges(self):
        self.says(True, falls_running(BARE, [], [], ("known", ())))
        self.says(False, falls_running(BARE, [[]], [], (0, ())))
        self.says(True, falls_running(asked=[0, []], lot=(0,), start=((),), book=BARE))
        self.assertEqual(felling_keys(BARE, [[]], (0, ())), [0])
        self.assertEqual(felling_keys(asked=["known", []], start=((), ()), book=BARE), [0, 1])
        self.assertEqual(heads(BARE, []), [])
        self.assertEqual(heads(start=((), []), book=BARE), [[0], [1]])
        self.says(False, falls_running(BOOK, START, [1], (0, ())))
        self.says(True, falls_running(BOOK, START, [0, 1], (0, ())))
        # The book has roles that a role of its own choosing might be called.
        names = ["told" + str(number) for number in range(3)]
        book = Book(names, [], [("wrap", "told1", "told2")])
        self.says(True, falls_running(book, [["told1"], ["told2"], ["told0"]], [0], (1, ())))
        self.assertEqual(felling_keys(book, [["told1"], ["told2"], ["told0"]], (1, ())), [0, 1])
        self.assertEqual(heads(book, [["told1"], ["told2"], ["told0"]]), [[0], [2]])

    def test_two_that_bring_down_one_another(self):
        book = Book(["a", "b", "c"], [], [("wrap", "a", "b"), ("wrap", "b", "a"), ("wrap", "b", "c"), ("wrap", "c", "c")])
        self.assertEqual(heads(book, [["a"], ["b"], ["c"]]), [[0, 1]])
        self.assertEqual(heads(book, [["c"], ["b"], ["c"], ["a"]]), [[1, 3]])
        self.assertEqual(heads(book, [["c"], ["c"]]), [[0, 1]])
        self.assertEqual(heads(Book(["a"], [], [("show", "a")]), [["a"], [], ["a"]]), [[1]])

    def test_whatever_the_role(self):
        for count in range(60):
            dice, book, start = some_told(count)
            lot = [at for at in range(len(start)) if dice.number(2)]
            for asked in all_asked(book, start, 1):
                wanted = plain_falls(book, start, lot, asked)
                self.says(wanted, falls_running(book, start, lot, asked))
                for role in ("e", "zzzzzzzz", "open"):
                    self.assertEqual(verdict(*told_book(book, start, lot, role), asked, "known")[0] == "told", wanted)

    def test_18_2_one_is_enough(self):
        several = 0
        for count in range(130):
            _, book, start = some_told(count)
            lots = [sorted(lot) for lot in all_lots(range(len(start)))]
            for asked in all_asked(book, start, 1):
                falls = {tuple(lot): plain_falls(book, start, lot, asked) for lot in lots}
                felling = felling_keys(book, start, asked)
                self.assertEqual(felling, [at for at in range(len(start)) if falls[(at,)]])
                for lot in lots:
                    self.assertEqual(falls[tuple(lot)], falls[()] or bool(set(lot) & set(felling)))
                    self.says(falls[tuple(lot)], falls_running(book, start, lot, asked))
                several += 0 < len(felling) < len(start) and felling != [asked[0]]
        self.assertGreater(several, 20)

    def test_18_2_heads(self):
        sizes = {}
        for count in range(200):
            _, book, start = some_told(count)
            given = range(len(start))
            lots = [sorted(lot) for lot in all_lots(given)]
            falls = {(tuple(lot), at): plain_falls(book, start, lot, (at, ())) for lot in lots for at in given}
            down = {(at, other) for at in given for other in given if falls[((at,), other)]}
            for at, other in down:
                self.assertTrue(all([(at, third) in down for middle, third in down if middle == other]))
            found = []
            for lot in lots:
                together = all([(at, other) in down for at in lot for other in lot])
                whole = not any([at not in lot and all([(at, o) in down and (o, at) in down for o in lot]) for at in given])
                free = not any([falls[((), at)] for at in lot])
                ahead = not any([at not in lot and other in lot for at, other in down])
                if lot and together and whole and free and ahead:
                    found.append(lot)
            told = heads(book, start)
            self.assertEqual(told, sorted(found))
            # A lot fells all given keys if and only if it has a key of each head.
            for lot in lots:
                every = all([falls[(tuple(lot), at)] for at in given])
                self.assertEqual(every, all([set(lot) & set(head) for head in told]))
            for head in told:
                sizes[len(head)] = sizes.get(len(head), 0) + 1
        self.assertGreater(sizes[1], 50)
        self.assertGreater(sum([sizes[size] for size in sizes if size > 1]), 5)


class TestLater(WrapCase):
    def test_18_6(self):
        shut = running = 0
        for count in range(120):
            dice, book, start = some_told(count)
            lots = [sorted(lot) for lot in all_lots(range(len(start)))]
            for asked in dice.mixed(all_asked(book, start, 1))[:8]:
                comes = "known" in plain_reach(book, start, asked)
                for falls in (falls_shut, falls_running):
                    by = {tuple(lot): falls(book, start, lot, asked) for lot in lots}
                    self.assertEqual(by[()], comes)
                    for lot in lots:
                        self.assertEqual(by[tuple(lot)], comes or any([by[(at,)] for at in lot]))
                        for at in range(len(start)):
                            if falls(book, start, lot, (at, ())):
                                more = tuple(sorted({*lot, at}))
                                self.assertTrue(by[tuple(lot)] or not by[more])
                for lot in lots:
                    late, early = falls_shut(book, start, lot, asked), falls_running(book, start, lot, asked)
                    self.assertTrue(early or not late)
                    shut, running = shut + late, running + early
                    if not [permit for permit in book.all_permits() if permit[0] == "wrap"]:
                        self.assertEqual(late, comes or asked[0] in lot)
        self.assertGreater(running, shut)
        self.assertGreater(shut, 100)


    def test_some_fall_running_and_not_shut(self):
        found = 0
        for count in range(600):
            _, book, start = some_told(count)
            for at in range(len(start)):
                for other in range(len(start)):
                    found += falls_running(book, start, [at], (other, ())) and not falls_shut(book, start, [at], (other, ()))
        self.assertGreater(found, 2)
