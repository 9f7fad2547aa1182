"""11.1 to 11.3, 11.6: lean logs, and what any log is led over to."""

from tests.plain import is_under, parts, plain_knows, plain_log
from tests.plainrules import all_asked
from tests.plainwords import led_keys, plain_brings, plain_is_lean, plain_led_over, plain_reach, stand_in
from tests.samples import all_permits, some_case, some_log, some_start, some_wraps
from tests.tools import Dice, WrapCase, as_lists, as_tuples, odd_things
from underwraps.books import Book
from underwraps.leanlogs import is_lean, led_over
from underwraps.logs import log_fault, played
from underwraps.verdicts import verdict

BOOK = Book(["a", "d"], [], [("make", "a"), ("make", "d"), ("open", "a"), ("wrap", "a", "d")])
G, O = (("given", 0), ()), (("own", 0), ())
M = [(("made", number), ()) for number in range(9)]
C = ("under", M[2], M[0])
LOG = [("make", "d"), ("make", "a"), ("make", "a"), ("wrap", 2, 0), ("open", 2, C)]
LED = [("make", "d"), ("make", "a"), ("wrap", 1, 0), ("open", 1, ("under", M[1], M[0]))]
WIDE = Book(["a", "b"], ["x"], all_permits(["a", "b"], ["x"]))


def under(*keys):
    thing = keys[-1]
    for key in reversed(keys[:-1]):
        thing = ("under", key, thing)
    return thing


class TestExample(WrapCase):
    def test_11_6(self):
        self.says(False, is_lean(BOOK, [], LOG))
        self.assertEqual(led_over(BOOK, [], LOG), (LED, [0, 1, 1], [M[0], M[1], M[1]]))
        self.says(True, is_lean(BOOK, [], LED))


class TestLean(WrapCase):
    def test_each_that_is_none(self):
        own, far = (("own", 1), ()), (("own", 0), ("x",) * 30)
        for log, lean in [
            ([], True), ([("make", "a"), ("make", "b")], True), ([("make", "a"), ("make", "b"), ("make", "a")], False),
            ([("bring", "a", far)], True), ([("bring", "a", own)], False), ([("bring", "a", (("own", 1), ("x",)))], False),
            ([("seal", 0, O)], True), ([("seal", 0, own)], False), ([("seal", 0, under(O, O))], False),
            ([("seal", 0, under(O, own))], False), ([("seal", 0, O), ("open", 0, under(G, O))], True),
            ([("seal", 0, O), ("unwrap", 0, under(G, O), "b")], True), ([("show", 0), ("open", 0, under(G, O, O))], False),
            ([("show", 0), ("open", 0, under(G, far))], True), ([("show", 0), ("open", 0, under(G, own))], False),
            ([("show", 0), ("unwrap", 0, under(G, own), "a")], False), ([("show", 0), ("seal", 0, G)], True),
            ([("wrap", 0, 0), ("wrap", 0, 0), ("open", 0, under(G, G)), ("copy", 0, "b"), ("derive", 1, "x", "b")], True),
        ]:
            self.assertIsNone(log_fault(WIDE, [["a"]], log))
            for other in (log, as_lists(log), as_tuples(log)):
                self.says(lean, is_lean(thing=other, start=[["a"]], book=WIDE))
                self.says(lean, led_over(WIDE, [["a"]], other)[0] == log)

    def test_no_log(self):
        for thing in odd_things() + [LOG[3:], LED + [None], {0: 1}, "", LED[:3] + [("open", 0, under(M[1], M[0]))]]:
            self.says(False, is_lean(BOOK, [], thing))
        for thing in ([], ()):
            self.says(True, is_lean(BOOK, [], thing))
            self.assertEqual(led_over(BOOK, [], thing), ([], [], []))
            self.assertEqual(led_over(Book([], [], []), [[], []], thing), ([], [], []))
            self.assertEqual(led_over(WIDE, [["a", "b"], [], ["a"]], thing), ([], [0, 1, 2], []))


class TestLedOver(WrapCase):
    def test_stand_ins_everywhere(self):
        log = [
            ("make", "b"), ("make", "b"), ("make", "a"), ("make", "b"), ("make", "a"),
            ("bring", "a", (("own", 4), ("x",))), ("wrap", 5, 4), ("show", 5), ("seal", 6, under(M[4], (("own", 2), ()))),
            ("open", 5, under(M[4], M[3])), ("open", 5, under(M[4], (("own", 9), ()), M[3])), ("seal", 0, (("made", 4), ("x", "x"))),
            ("unwrap", 5, under(M[4], (("own", 7), ("x",))), "b"), ("derive", 4, "x", "a"), ("bring", "b", (("made", 3), ("x",))),
        ]
        lean, places, keys = led_over(WIDE, [["a"]], log)
        self.assertEqual(lean, [
            ("make", "b"), ("make", "a"), ("bring", "a", (("own", 0), ("x",))), ("wrap", 2, 1), ("show", 2),
            ("open", 2, under(M[1], M[0])), ("seal", 0, (("made", 1), ("x", "x"))),
            ("unwrap", 2, under(M[1], (("own", 0), ("x",))), "b"), ("derive", 1, "x", "a"), ("bring", "b", (("made", 0), ("x",))),
        ])
        self.assertEqual(places, [0, 1, 1, 2, 1, 2, 3, 4, 5, 6])
        self.assertEqual(keys, [M[0], M[0], M[1], M[0], M[1]])
        self.assertEqual(led_over(log=as_lists(log), start=(("a",),), book=WIDE), (lean, places, keys))

    def test_as_a_plain_reading(self):
        shorter = 0
        for count in range(250):
            dice = Dice(count)
            book, start, log = some_case(dice, 14)
            if count % 3 == 0:
                book, start = some_wraps(dice, ["a", "b"], ["x"], 2), some_start(dice, ["a", "b"], 2)
                log = some_log(dice, book, start, 14)
            told = led_over(book, start, log)
            self.assertEqual(told, plain_led_over(book, start, log))
            self.says(plain_is_lean(book, start, log), is_lean(book, start, log))
            self.holds(book, start, log, *told)
            shorter += len(told[0]) < len(log)
        self.assertGreater(shorter, 60)

    def holds(self, book, start, log, lean, places, keys):
        """Look at all that 11.3 says of a log and what it is led over to."""
        house, _, _ = plain_log(book.all_permits(), start, log)
        other, _, fault = plain_log(book.all_permits(), start, lean)
        self.assertIsNone(fault)
        self.says(True, is_lean(book, start, lean))
        self.assertTrue(plain_is_lean(book, start, lean))
        self.assertLessEqual(len(lean), len(log))
        self.assertEqual(led_over(book, start, lean)[0], lean)
        self.says(is_lean(book, start, log), lean == log)
        self.assertEqual(len(places), len(house.handles))
        for place, (key, role) in zip(places, house.handles):
            self.assertEqual(other.handles[place], (stand_in(log, key), role))
        self.assertEqual(keys, [stand_in(log, (("made", number), ())) for number in range(house.made)])
        for thing in self.likely(house):
            if plain_knows(house.out, thing):
                self.assertTrue(plain_knows(other.out, led_keys(thing, lambda key: stand_in(log, key))))

    def likely(self, house):
        """Return keys, and keys under keys, that may be known behind a log."""
        found = {part for thing in house.out for part in parts(thing)} | {key for key, _ in house.handles}
        keys = sorted({part for part in found if not is_under(part)})[:8]
        return keys + sorted({thing for thing in found if is_under(thing) and not is_under(thing[2])}, key=repr) + [
            ("under", key, other) for key in keys for other in keys]

    def test_comes_out_by_some_log_exactly_if_by_a_lean_one(self):
        out = 0
        for count in range(80):
            dice = Dice(count)
            book, start = some_wraps(dice, ["a", "b"], ["x"][:dice.number(2)], 2), some_start(dice, ["a", "b"], 2)
            for asked in all_asked(book, start, 1):
                word, paper = verdict(book, start, asked, "known")
                self.assertEqual(word == "told", "known" in plain_reach(book, start, asked))
                if word == "told":
                    lean = led_over(book, start, paper)[0]
                    self.assertTrue(plain_brings(book.all_permits(), start, lean, asked, "known"))
                    self.says(True, is_lean(book, start, lean))
                    out += 1
        self.assertGreater(out, 50)
        self.assertEqual(len(played(BOOK, [], LED).out()), 2)
