"""7.3 to 7.7: where ties lead, pairs, bunches, least keys, ties closed and thinned."""

from itertools import combinations

from tests.plainrules import (
    all_asked, all_pairs, all_ties, all_words, plain_leads, plain_moves, plain_roots, plain_states, tied,
)
from tests.samples import some_book, some_start
from tests.tools import Dice, WrapCase
from underwraps.books import Book
from underwraps.bunches import bunches_of, least_key
from underwraps.leading import leads_to, pairs_of
from underwraps.states import is_asked
from underwraps.ties import ties_closed, ties_thinned

DERIVES = [("derive", "a", "x", "b"), ("derive", "b", "x", "a")]
BOOK = Book(["a", "b", "c"], ["x"], [("make", "a")] + DERIVES)
BARE = Book([], [], [])


def some_tied_case(dice):
    """Return (book, start, ties) of at most two roles, or of three roles and one label."""
    roles = ["a", "b", "c"][:dice.number(4)]
    labels = ["x", "y"][:dice.number(2 if len(roles) == 3 else 3)]
    book = some_book(dice, roles, labels, 2 + dice.number(4))
    ties = dice.mixed([tie for tie in all_ties(book) if dice.number(4) == 0])
    return book, some_start(dice, roles, 3), ties


class TestExample(WrapCase):
    def test_7_7(self):
        self.assertEqual(leads_to(BOOK, [], [], ("a", [])), ["a"])
        self.assertEqual(leads_to(BOOK, [], [], ("a", ["x"])), ["b"])
        self.assertEqual(leads_to(BOOK, [], [], ("known", ["x"])), ["known"])
        self.assertEqual(pairs_of(BOOK, [], []), [("a", "a"), ("b", "b"), ("known", "known")])
        second = Book(["a", "b", "c"], ["x"], [("make", "a"), ("make", "b")] + DERIVES)
        ties = [("a", "c")]
        self.assertEqual(bunches_of(second, [], ties), [["a", "c"], ["b"], ["known"]])
        self.assertEqual(least_key(second, [], ties, ["c"]), ("a", ()))
        self.assertEqual(least_key(second, [], ties, ["b"]), ("b", ()))
        self.assertIsNone(least_key(second, [], ties, ["b", "c"]))
        for book in (BOOK, second):
            self.assertEqual(leads_to(book, [["a", "b"]], ties, (0, ["x"])), ["a", "b", "c"])


class TestLeads(WrapCase):
    def test_edges(self):
        start = [[], ["a", "b"], ["c"]]
        self.assertEqual(leads_to(BARE, [], [], ("known", [])), ["known"])
        self.assertEqual(leads_to(BARE, [[]], [], (0, ())), [])
        self.assertEqual(leads_to(BOOK, start, [("a", "c"), ("known", "b")], (0, ())), [])
        self.assertEqual(leads_to(BOOK, start, [], (1, ("x",) * 10)), ["a", "b"])
        self.assertEqual(leads_to(BOOK, start, [], (2, ("x",))), [])
        self.assertEqual(leads_to(BOOK, start, [("c", "a")], (2, ("x",))), ["b"])
        self.assertEqual(leads_to(BOOK, start, [("c", "a"), ("b", "known")], (2, ("x",) * 2)), ["a", "known"])
        self.assertEqual(leads_to(BOOK, start, [("known", "c"), ("c", "a")], ("known", ())), ["a", "c", "known"])

    def test_like_lists_and_names(self):
        ties = [("a", "c"), ("c", "known")]
        for some in (ties, ties[::-1], tuple(ties), [list(tie) for tie in ties]):
            self.assertEqual(leads_to(asked=["a", ()], ties=some, start=(), book=BOOK), ["a", "c", "known"])

    def test_as_a_plain_reading(self):
        for count in range(80):
            book, start, ties = some_tied_case(Dice(count))
            for asked in all_asked(book, start, 3):
                self.assertEqual(leads_to(book, start, ties, asked), sorted(plain_leads(book, start, ties, asked)))


def all_led(book, start, ties, words):
    """Return where all asked keys with these words lead, each gone on from the one without its last label."""
    roots, moves, led = plain_roots(book, start), plain_moves(book), {}
    for word in words:
        for root in roots:
            ahead = led.get((root, word[:-1]))
            reached = {q for p, x, q in moves if p in ahead and x == word[-1]} if word else roots[root]
            led[root, word] = frozenset(tied(ties, reached))
    return led


class TestItHolds(WrapCase):
    def words(self, book):
        """Return enough words to come to all that words lead to: no bunch twice, no pair twice on the way."""
        many = len(plain_states(book))
        return all_words(book.all_labels(), min(2 ** many, many ** 2))

    def test_7_4_7_5(self):
        sizes, longest, apart = {}, 0, 0
        for count in range(300):
            dice = Dice(count)
            book, start, ties = some_tied_case(dice)
            led, first = all_led(book, start, ties, self.words(book)), {}
            for asked, bunch in led.items():
                first.setdefault(bunch, asked)
            self.assertEqual(bunches_of(book, start, ties), sorted([sorted(bunch) for bunch in first]))
            pairs = pairs_of(book, start, ties)
            self.assertEqual(pairs, [(p, q) for p, q in all_pairs(book) if any(p in some and q in some for some in first)])
            states = plain_states(book)
            wanted = [[p, q] for p in states for q in states] + [[], states] + [list(some) for some in combinations(states, 3)]
            for some in wanted:
                found = [first[bunch] for bunch in first if bunch.issuperset(some)]
                told = least_key(book, start, ties, dice.mixed(some))
                self.assertEqual(told, found[0] if found else None)
                if len(some) == 2:
                    self.assertEqual(tuple(some) in pairs, told is not None)
                    self.assertTrue(told is None or len(told[1]) < len(pairs))
                if told is not None:
                    self.says(True, is_asked(book, start, told))
                    longest = max(longest, len(told[1]))
                elif len(some) > 2 and all((p, q) in pairs for p in some for q in some):
                    apart += 1
            sizes[len(first)] = True
        self.assertGreater(len(sizes), 5)
        self.assertGreater(longest, 1)
        self.assertGreater(apart, 0)

    def test_7_6(self):
        less = 0
        for count in range(80):
            dice = Dice(count)
            book, start, ties = some_tied_case(dice)
            ties = dice.mixed([tie for tie in all_ties(book) if dice.number(2)])
            closed, left = ties_closed(book, ties), ties_thinned(book, ties)
            self.assertEqual(closed, [(p, q) for p, q in all_ties(book) if q in tied(ties, [p])])
            self.assertEqual(left, plain_thinned(ties))
            self.assertEqual(ties_closed(book, left), closed)
            self.assertEqual(ties_closed(book, closed), closed)
            for tie in left:
                self.assertNotEqual(ties_closed(book, [other for other in left if other != tie]), closed)
            less += len(ties) - len(left)
            for asked in all_asked(book, start, 2):
                led = leads_to(book, start, ties, asked)
                self.assertEqual(leads_to(book, start, closed, asked), led)
                self.assertEqual(leads_to(book, start, left, asked), led)
        self.assertGreater(less, 40)


def plain_thinned(ties):
    left = sorted(ties)
    for p, q in sorted(ties):
        others = [tie for tie in left if tie != (p, q)]
        if q in tied(others, [p]):
            left = others
    return left


class TestPairs(WrapCase):
    def test_edges(self):
        self.assertEqual(pairs_of(BARE, [], []), [("known", "known")])
        self.assertEqual(pairs_of(BARE, [[], []], ()), [("known", "known")])
        self.assertEqual(pairs_of(start=[["a", "b"]], ties=[["b", "c"]], book=Book(["a", "b", "c"], [], [])), [
            ("a", "a"), ("a", "b"), ("a", "c"), ("b", "a"), ("b", "b"), ("b", "c"), ("c", "a"), ("c", "b"), ("c", "c"),
            ("known", "known"),
        ])

    def test_three_pairs_and_no_key_in_all_three(self):
        book, start = Book(["a", "b", "c"], [], []), [["a", "b"], ["b", "c"], ["a", "c"]]
        pairs = pairs_of(book, start, [])
        self.assertTrue(all([(p, q) in pairs for p in "abc" for q in "abc"]))
        self.assertIsNone(least_key(book, start, [], ["a", "b", "c"]))
        self.assertEqual(bunches_of(book, start, []), [["a", "b"], ["a", "c"], ["b", "c"], ["known"]])


class TestLeastKey(WrapCase):
    def test_fewest_labels_then_word_then_root(self):
        book = Book(["a", "b", "c"], ["x", "y"], [
            ("make", "b"), ("derive", "a", "y", "c"), ("derive", "b", "x", "c"), ("derive", "b", "y", "a"),
        ])
        start = [["a"], ["b"], ["b"]]
        self.assertEqual(least_key(book, start, [], ["c"]), (1, ("x",)))
        self.assertEqual(least_key(book, [["a"]], [], ["c"]), ("b", ("x",)))
        self.assertEqual(least_key(book, start, [], ["a"]), (0, ()))
        self.assertEqual(least_key(book, start, [], []), (0, ()))
        self.assertEqual(least_key(book, [], [], []), ("b", ()))
        self.assertEqual(least_key(book, [], [], ["a"]), ("b", ("y",)))
        self.assertEqual(least_key(BARE, [[]], [], []), (0, ()))
        self.assertIsNone(least_key(book, start, [], ["a", "known"]))
        self.assertEqual(least_key(book, start, [("a", "known")], ["known", "a", "a", "known"]), (0, ()))
        self.assertEqual(least_key(states=("known",), ties=(), start=start, book=book), ("known", ()))

    def test_seven_states(self):
        roles = ["a", "b", "c", "d", "e", "f"]
        book = Book(roles, [], [])
        ties = [("known", role) for role in roles]
        self.assertEqual(least_key(book, [], ties, ["known"] + roles), ("known", ()))


class TestBunches(WrapCase):
    def test_edges(self):
        self.assertEqual(bunches_of(BARE, [], []), [["known"]])
        self.assertEqual(bunches_of(BARE, [[]], []), [[], ["known"]])
        self.assertEqual(bunches_of(ties=(), start=[["a"]], book=Book(["a"], ["x"], [])), [[], ["a"], ["known"]])
        self.assertEqual(bunches_of(BOOK, (), [("b", "known"), ("a", "b")]), [["a", "b", "known"], ["known"]])


class TestTies(WrapCase):
    def test_edges(self):
        ring = [("c", "a"), ("a", "b"), ("b", "c")]
        for some in (ring, tuple([list(tie) for tie in ring])):
            self.assertEqual(ties_closed(BOOK, some), [(p, q) for p in "abc" for q in "abc" if p != q])
        self.assertEqual(ties_closed(ties=[], book=BARE), [])
        self.assertEqual(ties_closed(BOOK, [("known", "a"), ("a", "known")]), [("a", "known"), ("known", "a")])
        self.assertEqual(ties_thinned(BOOK, ring), sorted(ring))
        self.assertEqual(ties_thinned(BOOK, ring + [("a", "c")]), sorted(ring))
        self.assertEqual(ties_thinned(ties=(), book=BARE), [])
        every = [(p, q) for p in "abc" for q in "abc" if p != q]
        self.assertEqual(ties_thinned(BOOK, every[::-1]), [("a", "c"), ("b", "c"), ("c", "a"), ("c", "b")])
