"""13.3, 13.5 to 13.7: a log and a key that has all of some states, wrappers."""

from tests.plain import plain_knows, plain_log
from tests.plainrules import all_asked, all_words, plain_leads, plain_roots, plain_states
from tests.plaintiers import all_lots, plain_bunches
from tests.plainwords import keys_asked, plain_least, plain_reach
from tests.samples import all_permits, some_small
from tests.tools import WrapCase, as_lists
from underwraps.books import Book
from underwraps.togethers import together, wrapping

BOOK = Book(["a", "b", "w"], ["x"], [("derive", "w", "x", "a"), ("copy", "a", "b"), ("wrap", "b", "w")])
START = [["w"], ["a", "w"]]
BARE = Book([], [], [])


def has_all(book, start, log, key, states):
    """Tell whether a list of calls is a log behind which a key has all of some states."""
    house, _, fault = plain_log(book.all_permits(), start, log)
    return fault is None and all([
        plain_knows(house.out, key) if state == "known" else (key, state) in house.handles for state in states])


class TestExample(WrapCase):
    def test_13_7(self):
        log, key = together(BOOK, START, 0, ["b"])
        self.assertEqual(key, (("given", 0), ("x",)))
        self.assertTrue(has_all(BOOK, START, log, key, ["b"]))
        self.assertTrue(has_all(BOOK, START, [("derive", 0, "x", "a"), ("copy", 3, "b")], key, ["b"]))
        self.assertIsNone(together(BOOK, START, 0, ["b", "w"]))
        self.assertEqual(wrapping(BOOK, START, "w"), ["a", "b", "w"])


class TestTogether(WrapCase):
    def test_edges(self):
        self.assertEqual(together(BARE, [], "known", ["known"]), ([], (("own", 0), ())))
        self.assertIsNone(together(states=("known",), root=0, start=[[]], book=BARE))
        self.assertEqual(together(BOOK, START, 1, ["w", "a"]), ([], (("given", 1), ())))
        self.assertEqual(together(BOOK, START, 1, ("a", "w")), ([], (("given", 1), ())))
        made = Book(["a", "b"], ["x"], [("make", "a"), ("derive", "a", "x", "b"), ("show", "a")])
        self.assertEqual(together(made, [], "a", ["a"]), ([("make", "a")], (("made", 0), ())))
        self.assertEqual(together(made, [], "a", ["b", "known"]), (
            [("make", "a"), ("derive", 0, "x", "b"), ("show", 0)], (("made", 0), ("x",))))
        every = Book(["a", "b"], ["x"], all_permits(["a", "b"], ["x"]))
        for root in (1, "a", "b", "known"):
            log, key = together(every, [[], ["b"]], root, ["known", "b", "a"])
            self.assertTrue(has_all(every, [[], ["b"]], log, key, ["a", "b", "known"]))
        self.assertIsNone(together(every, [[], ["b"]], 0, ["a"]))

    def test_least_word(self):
        goes = [("w", "x", "a"), ("w", "y", "a"), ("a", "x", "b"), ("a", "y", "b"), ("b", "x", "b"), ("a", "y", "c"), ("a", "x", "a")]
        book = Book(["a", "b", "c", "w"], ["x", "y"], [("derive", *go) for go in goes])
        for states, word in [(["b"], ("x", "x")), (["c"], ("x", "y")), (["b", "c"], ("x", "y")), (["a", "b"], ("x", "x")), (["w"], ())]:
            log, key = together(book, [["w"]], 0, states)
            self.assertEqual(key, (("given", 0), word))
            self.assertTrue(has_all(book, [["w"]], log, key, states))

    def test_just_one(self):
        found = {True: 0, False: 0}
        for count in range(150):
            dice, book, start = some_small(count)
            ties, _ = plain_least(book, start)
            for root in plain_roots(book, start):
                bunches = plain_bunches(book, start, root)
                words = all_words(book.all_labels(), len(bunches) if len(bunches) < 6 else 5)
                for lot in all_lots(plain_states(book))[1:]:
                    told = together(book, start, root, dice.mixed(lot))
                    self.assertEqual(told is not None, any([lot <= bunch for bunch in bunches]))
                    found[told is not None] += 1
                    if told is not None:
                        log, key = told
                        word = [word for word in words if lot <= plain_leads(book, start, ties, (root, word))][0]
                        self.assertEqual(key[1], word)
                        self.assertIn(key, keys_asked(log, (root, word)))
                        self.assertTrue(has_all(book, start, log, key, lot))
                        self.assertEqual(together(book, as_lists(start), root, tuple(sorted(lot)))[1][1], word)
        self.assertGreater(min(found.values()), 500)


class TestWrapping(WrapCase):
    def test_edges(self):
        self.assertEqual(wrapping(Book(["a"], [], []), [["a"]], "a"), [])
        self.assertEqual(wrapping(role="a", start=(), book=Book(["a"], [], [("wrap", "a", "a")])), [])
        self.assertEqual(wrapping(Book(["a"], [], [("wrap", "a", "a")]), [["a"]], "a"), ["a"])
        self.assertEqual(wrapping(Book(["a", "b"], [], [("wrap", "a", "b"), ("show", "a")]), [["a"], ["b"]], "b"), ["a", "known"])
        self.assertEqual(wrapping(Book(["a", "b"], [], [("wrap", "a", "b")]), [["a", "b"]], "a"), [])

    def test_as_a_plain_reading(self):
        some = out = 0
        for count in range(170):
            _, book, start = some_small(count)
            bunches = [bunch for root in plain_roots(book, start) for bunch in plain_bunches(book, start, root)]
            reached = {asked: plain_reach(book, start, asked) for asked in all_asked(book, start, 2)}
            for role in book.all_roles():
                wrappers = {q for word, q, *more in book.all_permits() if word == "wrap" and more == [role]}
                told = wrapping(book, start, role)
                self.assertEqual(told, sorted(set().union(*[bunch for bunch in bunches if bunch & wrappers])))
                some += bool(told)
                openers = {"known"} | {permit[1] for permit in book.all_permits() if permit[0] == "open"}
                if any([role in bunch for bunch in bunches]) and openers & set(told):
                    for asked, states in reached.items():
                        if role in states:
                            self.assertIn("known", states)
                            out += 1
        self.assertGreater(some, 50)
        self.assertGreater(out, 100)
