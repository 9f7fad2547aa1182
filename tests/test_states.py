"""7.1, 7.2: states, moves, roots, first states, asked keys."""

from tests.plainrules import plain_moves, plain_roots, plain_states
from tests.samples import some_book, some_start
from tests.tools import Dice, Hostile, Odd, WrapCase, as_lists, as_tuples, empties, odd_things, ring
from underwraps.books import Book
from underwraps.states import first_states, is_asked, moves_of, roots_of, states_of

BARE = Book([], [], [])
BOOK = Book(["z", "b", "known1"], ["y", "x"], [
    ("make", "z"), ("make", "b"), ("derive", "z", "y", "b"), ("derive", "b", "x", "z"), ("derive", "b", "x", "b"),
    ("wrap", "b", "z"), ("copy", "z", "b"), ("show", "known1"),
])
START = [["b", "z"], [], ["known1"]]


class TestStates(WrapCase):
    def test_ordinary(self):
        self.assertEqual(states_of(BOOK), ["b", "known", "known1", "z"])
        self.assertEqual(states_of(book=BARE), ["known"])

    def test_moves(self):
        self.assertEqual(moves_of(BOOK), [
            ("b", "x", "b"), ("b", "x", "z"), ("known", "x", "known"), ("known", "y", "known"), ("z", "y", "b"),
        ])
        self.assertEqual(moves_of(book=BARE), [])
        self.assertEqual(moves_of(Book(["a"], [], [("make", "a"), ("copy", "a", "a")])), [])
        self.assertEqual(moves_of(Book([], ["known"], [])), [("known", "known", "known")])

    def test_roots(self):
        self.assertEqual(roots_of(BOOK, START), [0, 1, 2, "b", "known", "z"])
        self.assertEqual(roots_of(start=(), book=BOOK), ["b", "known", "z"])
        self.assertEqual(roots_of(BARE, []), ["known"])
        self.assertEqual(roots_of(BARE, [[], []]), [0, 1, "known"])
        many = roots_of(BARE, [[]] * 12)
        self.assertEqual(many, list(range(12)) + ["known"])

    def test_first_states(self):
        for root, wanted in [(0, ["b", "z"]), (1, []), (2, ["known1"]), ("b", ["b"]), ("z", ["z"]), ("known", ["known"])]:
            self.assertEqual(first_states(BOOK, START, root), wanted)
            self.assertEqual(first_states(root=root, start=as_tuples(START), book=BOOK), wanted)

    def test_a_start_that_changes_later(self):
        start = [["b"]]
        told = first_states(BOOK, start, 0)
        told.append("z")
        self.assertEqual(start, [["b"]])
        self.assertEqual(first_states(BOOK, start, 0), ["b"])

    def test_as_a_plain_reading(self):
        for count in range(100):
            dice = Dice(count)
            roles, labels = ["a", "m", "z"][:dice.number(4)], ["x", "y"][:dice.number(3)]
            book, start = some_book(dice, roles, labels, 2), some_start(dice, roles, 4)
            self.assertEqual(states_of(book), plain_states(book))
            self.assertEqual(moves_of(book), sorted(plain_moves(book)))
            roots = plain_roots(book, start)
            self.assertEqual(roots_of(book, start), list(roots))
            for root in roots:
                self.assertEqual(first_states(book, start, root), sorted(roots[root]))


class TestAsked(WrapCase):
    def test_what_is_one(self):
        for asked in [
            (0, ()), (1, ("x",)), (2, ("y", "x") * 5), ("b", ()), ("z", ("y",)), ("known", ()), ("known", ("x", "y") * 20),
        ]:
            self.says(True, is_asked(BOOK, START, asked))
            self.says(True, is_asked(thing=as_lists(asked), start=as_tuples(START), book=BOOK))
        self.says(True, is_asked(BARE, [], ("known", [])))
        self.says(True, is_asked(BARE, [[]], (0, [])))

    def test_what_is_none(self):
        for thing in odd_things() + empties() + [
            (3, ()), (-1, ()), (True, ()), (False, ()), (0.0, ()), ("0", ()), (None, ()), ("known1", ()), ("q", ()), ("", ()),
            (0,), (0, (), ()), 0, "b", "known", (0, "x"), (0, "xy"), (0, "known"), (0, ("q",)), (0, ("b",)), (0, (0,)),
            (0, ("x", None)), (0, {}), (0, {"x"}), (0, None), (Hostile(), ()), (0, Hostile()), (0, (Hostile(),)),
            (Odd(), ()), (0, (Odd(),)), {0: ()}, ((0,), ()), ([], []), (0, ring()), ring(), ("make", ()), (b"b", ()),
            ((("given", 0), ()), ()), (("given", 0), ()),
        ]:
            self.says(False, is_asked(BOOK, START, thing))

    def test_without_the_permit_or_the_key(self):
        self.says(False, is_asked(BARE, [], (0, ())))
        self.says(False, is_asked(Book(["a"], [], []), [["a"]], ("a", ())))
        self.says(False, is_asked(Book(["a"], [], [("make", "a")]), [["a"]], ("a", ("x",))))
