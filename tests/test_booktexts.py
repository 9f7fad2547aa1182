"""21.1 to 21.3, 21.7, 21.8: books and starts as text."""

import unittest

from tests.plaintexts import book_endings, is_book_text, is_start_text, plain_fault, start_endings
from tests.samples_texts import NAMES, changed_texts, some_named
from tests.tools import Hostile, WrapCase, as_lists, as_tuples, empties, odd_things, ring
from underwraps.books import Book
from underwraps.booktexts import book_text, book_text_fault, read_book
from underwraps.errors import BadBook, BadStart
from underwraps.refusals import BadBookText, BadStartText
from underwraps.starttexts import read_start, start_text, start_text_fault

BOOK = Book(["data", "kek"], [], [("make", "data"), ("wrap", "kek", "data"), ("unwrap", "kek", "data"), ("open", "data")])
BARE = Book([], [], [])


class TextCase(WrapCase):
    def wrong_at(self, error, place, call, *args):
        """Look that a call raises an error with a line and a sign."""
        with self.assertRaises(error) as caught:
            call(*args)
        self.assertIs(type(caught.exception), error)
        self.assertEqual(vars(caught.exception), {"line": place[0], "sign": place[1]})


class TestExample(TextCase):
    def test_21_8(self):
        self.assertEqual(book_text(BOOK), "roles data kek\nlabels\nmake data\nopen data\nunwrap kek data\nwrap kek data\n")
        self.assertEqual(start_text(BOOK, [["kek"], ["data"]]), "given kek\ngiven data\n")
        self.assertEqual(book_text_fault("roles kek data\n"), (1, 11))
        self.assertEqual(book_text_fault("roles a known\n"), (1, 14))
        self.assertEqual(book_text_fault("roles a\nlabels\nopen a\nmake a\n"), (4, 1))
        self.assertEqual(book_text_fault("roles a\nlabels"), (2, 7))


class TestBooks(TextCase):
    def test_right_ones(self):
        for book, text in [
            (BARE, "roles\nlabels\n"), (Book(["b", "a"], ["y", "x"], []), "roles a b\nlabels x y\n"), (Book([], ["known"], []), "roles\nlabels known\n"),
            (Book(["zzzzzzzz"], ["zzzzzzzz"], [("derive", "zzzzzzzz", "zzzzzzzz", "zzzzzzzz")]), "roles zzzzzzzz\nlabels zzzzzzzz\nderive zzzzzzzz zzzzzzzz zzzzzzzz\n"),
            (Book(["a", "ab"], [], [("copy", "ab", "a"), ("copy", "a", "ab"), ("copy", "a", "a")]), "roles a ab\nlabels\ncopy a a\ncopy a ab\ncopy ab a\n"),
            (Book(["make"], ["make"], [("make", "make")]), "roles make\nlabels make\nmake make\n"),
        ]:
            self.assertEqual(book_text(book=book), text)
            self.assertEqual(read_book(text=text), book)
            self.assertIsNone(book_text_fault(text=text))

    def test_wrong_ones(self):
        for text, place in [
            ("", (1, 1)), ("\n", (1, 1)), ("r", (1, 2)), ("roles", (1, 6)), ("roles\n", (2, 1)), ("roles \n", (1, 7)), ("roles  a\n", (1, 7)), ("role\n", (1, 5)),
            ("rolesa\n", (1, 6)), ("roles a", (1, 8)), ("roles a \n", (1, 9)), ("roles a a\n", (1, 10)), ("roles b a", (1, 9)), ("roles A\n", (1, 7)),
            ("roles 1a\n", (1, 7)), ("roles a1 a0\n", (1, 11)), ("roles abcdefghi\n", (1, 15)), ("roles abcdefgh \n", (1, 16)), ("roles zzzzzzzz \n", (1, 15)),
            ("roles zzzzzzzz z\n", (1, 15)), ("roles zzzzzzz zzzzzzzz\nlabels zzzzzzzz \n", (2, 16)), ("roles zzzzzzz zzzzzzz0\nlabels\n", None),
            ("roles kek data\n", (1, 11)), ("roles known\n", (1, 12)), ("roles known \n", (1, 12)), ("roles known0\nlabels\n", None), ("roles a known", (1, 14)),
            ("roles knownz known\n", (1, 19)), ("roles ab a\n", (1, 11)), ("roles ab a", (1, 11)), ("roles ab aa\n", (1, 11)), ("roles ab a0\n", (1, 11)),
            ("roles ab abb\nlabels\n", None), ("roles ab ab\n", (1, 12)), ("roles azzzzzzz a", (1, 16)), ("roles azzzzzzz b\nlabels bzzzzzzz bz\n", (2, 17)), ("roles a\nlabel\n", (2, 6)), ("roles a\nroles\n", (2, 1)), ("labels\nroles\n", (1, 1)),
            ("roles a\nlabels b a\n", (2, 10)), ("roles a\nlabels\n\n", (3, 1)), ("roles a\nlabels\nmake a", (3, 7)), ("roles a\nlabels\nmake a \n", (3, 7)),
            ("roles a\nlabels\nmake b\n", (3, 6)), ("roles a\nlabels\nmake\n", (3, 5)), ("roles a\nlabels\nmakea\n", (3, 5)), ("roles a\nlabels\nderive a\n", (3, 1)),
            ("roles\nlabels x\nmake x\n", (3, 1)), ("roles\nlabels x\nd", (3, 1)), ("roles a\nlabels x\nd", (3, 2)), ("roles a ab\nlabels\nmake ab\nmake a\n", (4, 1)),
            ("roles a ab\nlabels\nmake a\nmake a\n", (4, 7)), ("roles a ab ac\nlabels\nmake ab\nmake a\n", (4, 7)), ("roles a\nlabels\nwrap a a\n\n", (4, 1)),
            ("roles a\nlabels\nopen a\nmake a\n", (4, 1)), ("roles a\nlabels\nopen a\nopen a\n", (4, 1)), ("roles a\nlabels\nopen a\no", (4, 1)), ("roles a\nlabels\nwrap a a\nw", (4, 1)),
            ("roles a b\nlabels\ncopy b b\nc", (4, 1)), ("roles a b\nlabels\ncopy b a\ncopy b a\n", (4, 8)), ("roles a b\nlabels\ncopy a b\ncopy a", (4, 6)),
            ("roles a b\nlabels\ncopy a b\ncopy b a\n", None), ("roles a\nlabels\nmake a\r\n", (3, 7)), ("roles\ta\nlabels\n", (1, 6)), ("Roles\nlabels\n", (1, 1)),
            ("roles\nlabels\nx", (3, 1)), (" roles\nlabels\n", (1, 1)), ("roles\u00e9\n", (1, 6)), ("roles a\u00e9\n", (1, 8)), ("roles a\nlabels\nshow a\nseal a\n", (4, 1)),
            ("roles a\nlabels\nseal a\nshow a\n", None),
        ]:
            self.assertEqual(book_text_fault(text), place, repr(text))
            if place is not None:
                self.wrong_at(BadBookText, place, read_book, text)
            self.assertEqual(plain_fault(text, is_book_text, book_endings), place, repr(text))

    def test_no_string(self):
        for thing in [thing for thing in odd_things() + empties() + [b"roles\nlabels\n", ["roles\n"], ring()] if not isinstance(thing, str)]:
            self.assertEqual(book_text_fault(thing), (0, 0))
            self.wrong_at(BadBookText, (0, 0), read_book, thing)
            self.raises(BadBook, thing, book_text, thing)

    def test_21_7(self):
        right = wrong = 0
        for count in range(60):
            dice, book = some_named(count)
            text = book_text(book)
            self.assertTrue(is_book_text(text))
            self.assertEqual(read_book(text), book)
            for other in changed_texts(dice, text, 8):
                place = plain_fault(other, is_book_text, book_endings)
                self.assertEqual(book_text_fault(other), place, repr(other))
                if place is None:
                    self.assertEqual(book_text(read_book(other)), other)
                    right += 1
                else:
                    self.wrong_at(BadBookText, place, read_book, other)
                    wrong += 1
        self.assertGreater(min(right, wrong), 50)

    def test_beginnings(self):
        for count in range(25):
            _, book = some_named(count)
            text = book_text(book)
            for at in range(len(text)):
                begun = text[:at]
                # Each beginning can be gone on with: what is wrong is that it ends.
                wanted = None if is_book_text(begun) else (begun.count("\n") + 1, at - begun.rfind("\n"))
                self.assertEqual(book_text_fault(begun), wanted)


class TestStarts(TextCase):
    def test_right_ones(self):
        for start, text in [
            ([], ""), ([[]], "given\n"), ([["kek"], [], ["data", "kek"]], "given kek\ngiven\ngiven data kek\n"), ([["data"]] * 2, "given data\n" * 2),
        ]:
            for shape in (as_lists, as_tuples):
                self.assertEqual(start_text(start=shape(start), book=BOOK), text)
            told = read_start(text=text, book=BOOK)
            self.assertEqual(repr(told), repr(start))
            self.assertIsNone(start_text_fault(text=text, book=BOOK))
            told.append(1)
            self.assertEqual(read_start(BOOK, text), start)
        self.assertEqual(start_text(BARE, ((), ())), "given\ngiven\n")

    def test_wrong_ones(self):
        book = Book(["a", "ab", "abc", "b", "zzzzzzzz"], [], [])
        for text, place in [
            ("\n", (1, 1)), ("given", (1, 6)), ("give\n", (1, 5)), ("given \n", (1, 7)), ("given  a\n", (1, 7)), ("given c\n", (1, 7)), ("given ac\n", (1, 8)),
            ("given a\n\n", (2, 1)), ("given a a\n", (1, 10)), ("given b a", (1, 9)), ("given b ab\n", (1, 9)), ("given ab a\n", (1, 11)), ("given ab abc\n", None),
            ("given abc ab\n", (1, 11)), ("given abc abc\n", (1, 11)), ("given zzzzzzzz \n", (1, 15)), ("given zzzzzzzz\n", None), ("given zz\n", (1, 9)), ("given known\n", (1, 7)),
            ("given a\ngiven", (2, 6)), ("given a b zzzzzzzz \n", (1, 19)), ("given a \n", (1, 9)), ("Given\n", (1, 1)), ("given a\rgiven", (1, 8)), ("givena\n", (1, 6)),
        ]:
            self.assertEqual(start_text_fault(book, text), place, repr(text))
            if place is not None:
                self.wrong_at(BadStartText, place, read_start, book, text)
        for text, place in [("given \n", (1, 6)), ("given a\n", (1, 6)), ("given", (1, 6)), ("given\ngiven\n", None)]:
            self.assertEqual(start_text_fault(BARE, text), place)

    def test_errors(self):
        for thing in [thing for thing in odd_things() + empties() if not isinstance(thing, str)]:
            self.assertEqual(start_text_fault(BOOK, thing), (0, 0))
            self.wrong_at(BadStartText, (0, 0), read_start, BOOK, thing)
        for thing in odd_things() + empties():
            for call in (start_text, read_start, start_text_fault):
                self.raises(BadBook, thing, call, thing, Hostile())
        for thing in [None, "", "ab", {}, Hostile(), 0]:
            self.raises(BadStart, 0, start_text, BOOK, thing)
        self.raises(BadStart, 1, start_text, BOOK, [["kek"], ["kek", "data"], None])

    def test_21_7(self):
        right = wrong = 0
        for count in range(200):
            dice, book = some_named(count)
            roles = book.all_roles()
            start = [sorted(dice.part(roles)) for _ in range(dice.number(4))]
            text = start_text(book, start)
            self.assertTrue(is_start_text(roles, text))
            self.assertEqual(read_start(book, text), start)
            for other in changed_texts(dice, text, 10):
                place = plain_fault(other, lambda some: is_start_text(roles, some), lambda begun: start_endings(roles, begun))
                self.assertEqual(start_text_fault(book, other), place, repr(other))
                if place is None:
                    self.assertEqual(start_text(book, read_start(book, other)), other)
                    right += 1
                else:
                    self.wrong_at(BadStartText, place, read_start, book, other)
                    wrong += 1
        self.assertGreater(min(right, wrong), 300)


class TestNames(unittest.TestCase):
    def test_names_are_of_all_kinds(self):
        self.assertEqual({len(name) for name in NAMES} & {1, 8}, {1, 8})
