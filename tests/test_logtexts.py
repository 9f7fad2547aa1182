"""21.4, 21.5, 21.7, 21.8: things and logs as text."""

from tests.plaintexts import is_log_text, is_thing_text, log_endings, plain_fault, thing_endings
from tests.samples_texts import changed_texts, some_calls, some_named, some_wide_thing
from tests.test_booktexts import BARE, BOOK, TextCase
from tests.tools import Hostile, as_lists, as_tuples, empties, odd_things, ring
from underwraps.books import Book
from underwraps.errors import BadBook, BadThing
from underwraps.houses import is_call
from underwraps.logtexts import log_text, log_text_fault, read_log
from underwraps.refusals import BadCalls, BadLogText, BadThingText
from underwraps.thingtexts import read_thing, thing_text, thing_text_fault
from underwraps.things import is_thing

X = Book([], ["x"], [])
MANY = Book(["a", "ab", "b"], ["x", "xy", "y"], [])
G, M, O = (("given", 0), ()), (("made", 0), ()), (("own", 2), ())
LOG = [("make", "data"), ("unwrap", 0, ("under", G, M), "data")]


class TestExample(TextCase):
    def test_21_8(self):
        self.assertEqual(thing_text(X, ("under", (("given", 0), ("x",)), O)), "g0.x(o2)\n")
        self.assertEqual(thing_text_fault(X, "g0.y\n"), (1, 4))
        self.assertEqual(thing_text_fault(X, "g01\n"), (1, 3))
        self.assertEqual(log_text(BOOK, LOG), "make data\nunwrap 0 g0(m0) data\n")
        self.assertEqual(log_text_fault(BOOK, "bring data g0(m0)\n"), (1, 14))

    def test_21_4(self):
        thing = ("under", (("own", 1), ()), ("under", (("given", 0), ("x",)), (("made", 2), ())))
        self.assertEqual(thing_text(X, thing), "o1(g0.x(m2))\n")
        self.assertEqual(read_thing(X, "o1(g0.x(m2))\n"), thing)
        self.assertEqual(thing_text(Book([], ["x", "y"], []), (("given", 0), ("x", "y"))), "g0.x.y\n")


class TestThings(TextCase):
    def test_right_ones(self):
        for thing, text in [
            (G, "g0\n"), ((("made", 10), ("xy", "x", "y")), "m10.xy.x.y\n"), (("under", O, ("under", O, ("under", O, G))), "o2(o2(o2(g0)))\n"),
            ((("own", 999999999), ("x",) * 30), "o999999999" + ".x" * 30 + "\n"),
        ]:
            for shape in (as_lists, as_tuples):
                self.assertEqual(thing_text(thing=shape(thing), book=MANY), text)
            self.assertEqual(repr(read_thing(text=text, book=MANY)), repr(thing))
            self.assertIsNone(thing_text_fault(text=text, book=MANY))
            self.says(True, is_thing(MANY, read_thing(MANY, text)))

    def test_wrong_ones(self):
        for text, place in [
            ("", (1, 1)), ("\n", (1, 1)), ("g", (1, 2)), ("g\n", (1, 2)), ("g0", (1, 3)), ("g0\n\n", (2, 1)), ("g0\ng0\n", (2, 1)), ("a0\n", (1, 1)),
            ("G0\n", (1, 1)), ("g00\n", (1, 3)), ("g01\n", (1, 3)), ("g0.\n", (1, 4)), ("g0.xx\n", (1, 5)), ("g0.x.\n", (1, 6)), ("g0..x\n", (1, 4)),
            ("g1234567890\n", (1, 11)), ("g123456789\n", None), ("g0(\n", (1, 4)), ("g0()\n", (1, 4)), ("g0(m0\n", (1, 6)), ("g0(m0))\n", (1, 7)),
            ("g0(m0)", (1, 7)), ("g0)\n", (1, 3)), ("(g0)\n", (1, 1)), ("g0(m0)(o0)\n", (1, 7)), ("g0(m0).x\n", (1, 7)), ("g0 \n", (1, 3)), (" g0\n", (1, 1)),
            ("g0.xy(o0)\n", None), ("g0.xz\n", (1, 5)), ("g0.z\n", (1, 4)), ("g0.x0\n", (1, 5)), ("g-1\n", (1, 2)), ("g0(g0(g0\n", (1, 9)), ("g0(g0(g0)", (1, 10)),
            ("g0(g0(g0)))\n", (1, 11)), ("g0.x(o1.x.y)\n", None), ("g\u0660\n", (1, 2)), ("g0\r\n", (1, 3)),
        ]:
            self.assertEqual(thing_text_fault(MANY, text), place, repr(text))
            self.assertEqual(plain_fault(text, lambda some: is_thing_text(["x", "xy", "y"], some), lambda some: thing_endings(["x", "xy", "y"], some)), place)
            if place is not None:
                self.wrong_at(BadThingText, place, read_thing, MANY, text)
        self.assertEqual(thing_text_fault(BARE, "g0.x\n"), (1, 3))
        self.assertEqual(thing_text_fault(BARE, "g0.\n"), (1, 3))

    def test_errors(self):
        for thing in [thing for thing in odd_things() + empties() + [b"g0\n", ["g0\n"], ring()] if not isinstance(thing, str)]:
            self.assertEqual(thing_text_fault(X, thing), (0, 0))
            self.wrong_at(BadThingText, (0, 0), read_thing, X, thing)
        for thing in odd_things() + empties():
            for call in (thing_text, read_thing, thing_text_fault):
                self.raises(BadBook, thing, call, thing, Hostile())
            self.raises(BadThing, thing, thing_text, X, thing)
        key = (("given", 0), ("y",))
        self.raises(BadThing, key, thing_text, X, key)

    def test_21_7(self):
        right = wrong = 0
        for count in range(250):
            dice, book = some_named(count)
            labels = book.all_labels()
            thing = some_wide_thing(dice, labels)
            text = thing_text(book, thing)
            self.assertTrue(is_thing_text(labels, text))
            self.assertEqual(read_thing(book, text), thing)
            for other in changed_texts(dice, text, 10):
                place = plain_fault(other, lambda some: is_thing_text(labels, some), lambda some: thing_endings(labels, some))
                self.assertEqual(thing_text_fault(book, other), place, repr(other))
                if place is None:
                    self.assertEqual(thing_text(book, read_thing(book, other)), other)
                    right += 1
                else:
                    self.wrong_at(BadThingText, place, read_thing, book, other)
                    wrong += 1
        self.assertGreater(min(right, wrong), 300)


class TestLogs(TextCase):
    def test_right_ones(self):
        log = [
            ("make", "ab"), ("bring", "a", (("own", 1), ("xy",))), ("show", 12), ("copy", 0, "b"), ("derive", 3, "x", "ab"), ("wrap", 0, 10),
            ("unwrap", 7, ("under", G, M), "a"), ("seal", 1, G), ("open", 0, ("under", O, ("under", M, G))), ("open", 0, G), ("make", "ab"),
        ]
        text = (
            "make ab\nbring a o1.xy\nshow 12\ncopy 0 b\nderive 3 x ab\nwrap 0 10\nunwrap 7 g0(m0) a\nseal 1 g0\nopen 0 o2(m0(g0))\nopen 0 g0\nmake ab\n"
        )
        for shape in (as_lists, as_tuples):
            self.assertEqual(log_text(log=shape(log), book=MANY), text)
        told = read_log(text=text, book=MANY)
        self.assertEqual(repr(told), repr(log))
        self.assertIsNone(log_text_fault(text=text, book=MANY))
        told.clear()
        self.assertEqual(read_log(MANY, text), log)
        self.assertEqual((log_text(BARE, []), read_log(BARE, ""), log_text_fault(BARE, "")), ("", [], None))

    def test_wrong_ones(self):
        roles, labels = MANY.all_roles(), MANY.all_labels()
        for text, place in [
            ("\n", (1, 1)), ("make", (1, 5)), ("make\n", (1, 5)), ("make \n", (1, 6)), ("make c\n", (1, 6)), ("make a", (1, 7)), ("make a \n", (1, 7)), ("make abc\n", (1, 8)),
            ("make known\n", (1, 6)), ("Make a\n", (1, 1)), ("x", (1, 1)), ("make a\n\n", (2, 1)), ("make a\nshow\n", (2, 5)), ("show 01\n", (1, 7)), ("show -1\n", (1, 6)),
            ("show 1234567890\n", (1, 15)), ("show 123456789\n", None), ("show a\n", (1, 6)), ("show 0 \n", (1, 7)), ("bring a g0(m0)\n", (1, 11)), ("bring a g0.x\n", None),
            ("bring a 0\n", (1, 9)), ("bring g0 a\n", (1, 7)), ("copy 0 0\n", (1, 8)), ("copy 0\n", (1, 7)), ("derive 0 a a\n", (1, 10)), ("derive 0 x x\n", (1, 12)),
            ("derive 0 xy a\n", None), ("derive 0 xz a\n", (1, 11)), ("wrap 0 g0\n", (1, 8)), ("wrap 0 1 2\n", (1, 9)), ("unwrap 0 g0(m0)\n", (1, 16)), ("unwrap 0 g0(m0 a\n", (1, 15)),
            ("unwrap 0 g0 ab\n", None), ("seal 0 0\n", (1, 8)), ("seal 0 g0(m0(o0))\n", None), ("open 0\n", (1, 7)), ("open 0 g0(m0)) \n", (1, 14)), ("part 0 ann\n", (1, 1)),
            ("so", (1, 2)), ("se", (1, 3)), ("sealed", (1, 5)), ("makemake", (1, 5)), ("w", (1, 2)), ("u", (1, 2)), ("make a\nmake b\nmake q\n", (3, 6)), ("show\t0\n", (1, 5)),
        ]:
            self.assertEqual(log_text_fault(MANY, text), place, repr(text))
            self.assertEqual(plain_fault(text, lambda some: is_log_text(roles, labels, some), lambda some: log_endings(roles, labels, some)), place, repr(text))
            if place is not None:
                self.wrong_at(BadLogText, place, read_log, MANY, text)

    def test_no_roles_or_no_labels(self):
        for book, text, place in [
            (X, "make a\n", (1, 1)), (X, "b", (1, 1)), (X, "copy 0 a\n", (1, 1)), (X, "derive 0 x a\n", (1, 1)), (X, "unwrap 0 g0 a\n", (1, 1)), (X, "show 0\n", None),
            (X, "wrap 0 0\nseal 0 g0.x\nopen 0 g0\n", None), (X, "w", (1, 2)), (BARE, "open 0 g0.x\n", (1, 10)), (BOOK, "derive 0 x data\n", (1, 1)), (BOOK, "d", (1, 1)),
            (BOOK, "copy 0 data\n", None),
        ]:
            self.assertEqual(log_text_fault(book, text), place, repr(text))

    def test_errors(self):
        for thing in [thing for thing in odd_things() + empties() + [b"make data\n", ["make data\n"], ring()] if not isinstance(thing, str)]:
            self.assertEqual(log_text_fault(BOOK, thing), (0, 0))
            self.wrong_at(BadLogText, (0, 0), read_log, BOOK, thing)
        for thing in odd_things() + empties():
            for call in (log_text, read_log, log_text_fault):
                self.raises(BadBook, thing, call, thing, Hostile())
        for thing in [None, "ab", "", 0, True, {}, Hostile(), iter(LOG), {0: LOG[0]}]:
            self.raises(BadCalls, 0, log_text, BOOK, thing)
        for thing in odd_things() + empties() + [("make", "q"), ("part", 0, "ann"), ("show", True), ("bring", "data", ("under", G, G))]:
            self.raises(BadCalls, 2, log_text, BOOK, LOG + [thing, None])

    def test_21_7(self):
        right = wrong = 0
        for count in range(50):
            dice, book = some_named(count)
            roles, labels = book.all_roles(), book.all_labels()
            log = some_calls(dice, book, dice.number(6))
            self.assertTrue(all([is_call(book, call) for call in log]))
            text = log_text(book, log)
            self.assertTrue(is_log_text(roles, labels, text))
            self.assertEqual(read_log(book, text), log)
            for other in changed_texts(dice, text, 6):
                place = plain_fault(other, lambda some: is_log_text(roles, labels, some), lambda some: log_endings(roles, labels, some))
                self.assertEqual(log_text_fault(book, other), place, repr(other))
                if place is None:
                    self.assertEqual(log_text(book, read_log(book, other)), other)
                    right += 1
                else:
                    self.wrong_at(BadLogText, place, read_log, book, other)
                    wrong += 1
        self.assertGreater(min(right, wrong), 60)
