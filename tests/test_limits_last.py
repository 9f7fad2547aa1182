"""2.3, 2.4, and the heads of 19 to 21: custodians' verdicts, tellers, desks, texts are answered in seconds at the limits."""

from tests.samples import all_permits
from tests.samples_texts import changed_texts, some_calls
from tests.test_custodyverdicts import plain_custody_brings
from tests.test_limits_later import NAMES
from tests.test_limits_states import LABELS, ROLES, widest
from tests.tools import Dice, WrapCase, as_lists
from underwraps.books import Book
from underwraps.booktexts import book_text, book_text_fault, read_book
from underwraps.custodies import custodians
from underwraps.custodyverdicts import custody_judged, custody_verdict
from underwraps.desks import Desk
from underwraps.errors import WrapError
from underwraps.logtexts import log_text, log_text_fault, read_log
from underwraps.machines import grown, least_machine
from underwraps.machinetexts import machine_text, machine_text_fault, read_machine
from underwraps.starttexts import read_start, start_text, start_text_fault
from underwraps.states import roots_of, states_of
from underwraps.tellers import least_loyal, least_tellers
from underwraps.thingtexts import read_thing, thing_text, thing_text_fault

TEN = ["r" + "abcdefghij"[at] * 7 for at in range(10)]
FIVE = ["l" + "abcde"[at] * 7 for at in range(5)]


class TestCustodians(WrapCase):
    def asked(self, book, start, custody, tellers, dice):
        """Ask all of 19.5 and 19.6; return how long the longest told log is, and how many lists are told at most."""
        longest = lists = 0
        for root in roots_of(book, start):
            asked = (root, tuple(dice.some(book.all_labels(), 30)) if book.all_labels() else ())
            for state in states_of(book):
                told = self.in_seconds(custody_verdict, book, start, custody, tellers, asked, state)
                self.assertEqual(self.in_seconds(custody_judged, book, start, custody, tellers, asked, state, as_lists(told)), told[0])
                if told[0] == "told":
                    longest = max(longest, len(told[1]))
            lists = max(lists, len(self.in_seconds(least_tellers, book, start, custody, asked)))
            self.in_seconds(least_loyal, book, start, custody, asked)
        return longest, lists

    def test_widest_books(self):
        sizes = []
        for count in range(18):
            words = [("make", "wrap", "unwrap", "derive"), ("derive", "make", "open", "wrap"), ("make", "seal", "unwrap", "copy")][count % 3]
            dice, book, start = widest(count, words)
            pairs = dice.mixed([(role, name) for role in ROLES for name in NAMES])[:10]
            custody = (1 + count % 4, pairs, dice.mixed(ROLES)[:4])
            sizes.append(self.asked(book, start, custody, dice.part(custodians(book, custody)), dice))
        self.assertGreater(max([longest for longest, _ in sizes]), 80)

    def test_many_lists(self):
        book = Book(["k"], ["x"], [("make", "k"), ("derive", "k", "x", "k")])
        for need in range(1, 7):
            custody = (need, [("k", name) for name in NAMES], ["k"])
            for call in (least_tellers, least_loyal):
                self.assertTrue(self.in_seconds(call, book, [], custody, ("k", ("x",) * 30)))
            word, log = custody_verdict(book, [], custody, NAMES[:need], ("k", ("x",) * 30), "known")
            self.assertEqual(word, "told")
            self.says(True, plain_custody_brings(book, [], custody, NAMES[:need], log, ("k", ("x",) * 30), "known"))
        self.assertEqual(len(least_tellers(book, [], (3, custody[1], []), ("k", ()))), 20)
        self.assertEqual(len(least_loyal(book, [], (3, custody[1], []), ("k", ()))), 15)

    def test_wheels(self):
        # By one label five roles move on, by others two of them are one: many bunches, long ways to some of them.
        turn = [("derive", ROLES[1 + at], "x", ROLES[1 + (at + 1) % 5]) for at in range(5)]
        join = [("derive", ROLES[max(at, 2)] if at else ROLES[1], "y", ROLES[max(at, 2)]) for at in (0, 2, 3, 4, 5)]
        rest = [("derive", ROLES[1], "z", ROLES[0]), ("wrap", ROLES[0], ROLES[5]), ("unwrap", ROLES[2], ROLES[1]), ("make", ROLES[3])]
        book = Book(ROLES, LABELS, turn + join + rest)
        custody = (3, [(role, name) for role, name in zip(ROLES[1:] * 2, NAMES + NAMES[:4])], [ROLES[0], ROLES[2]])
        for tellers in ([], NAMES[:3], NAMES):
            self.asked(book, [ROLES[1:4], ROLES[2:], ROLES[3:4], []], custody, tellers, Dice(len(tellers)))


class TestDesks(WrapCase):
    def test_sixty_deeds(self):
        for count in range(6):
            dice = Dice(count)
            desk, done = Desk(ROLES, LABELS), 0
            permits = dice.mixed([permit for permit in all_permits(ROLES, LABELS) if permit[0] not in ("show", "bring")])
            for at in range(4):
                desk.give(sorted(dice.mixed(ROLES)[:3]))
                self.in_seconds(desk.guard, (at, tuple(dice.some(LABELS, 3))))
            for permit in permits[:60]:
                told = self.in_seconds(desk.would, permit)
                try:
                    self.in_seconds(desk.allow, permit)
                    self.assertIsNone(told)
                    done += 1
                except WrapError:
                    self.assertIsNotNone(told)
            other = self.in_seconds(desk.copy)
            words = [word for word in [self.in_seconds(desk.undo) for _ in range(70)] if word is not None]
            self.assertEqual((words.count("allow"), len(words) > 20), (done, True))
            for word in words[::-1]:
                self.assertEqual(self.in_seconds(desk.redo), word)
            self.assertEqual(desk, other)


class TestTexts(WrapCase):
    def longest(self, dice, write, read, fault, *held):
        """Look at the text of something, of as many as five thousand signs, and at others like it."""
        text = self.in_seconds(write, *held)
        books = held[:-1]
        self.assertIsNone(self.in_seconds(fault, *books, text))
        told = self.in_seconds(read, *books, text)
        self.assertEqual(write(*books, told), text)
        for other in changed_texts(dice, text, 12):
            if self.in_seconds(fault, *books, other) is not None:
                with self.assertRaises(WrapError):
                    read(*books, other)
        return len(text)

    def test_books(self):
        dice = Dice(1)
        book = Book(TEN, FIVE, dice.mixed(all_permits(TEN, FIVE))[:240])
        self.assertGreater(self.longest(dice, book_text, read_book, book_text_fault, book), 5000)
        self.longest(dice, book_text, read_book, book_text_fault, Book(TEN, FIVE, all_permits(TEN, FIVE)))
        start = [sorted(dice.mixed(TEN)[:4 + dice.number(7)]) for _ in range(80)]
        self.assertGreater(self.longest(dice, start_text, read_start, start_text_fault, book, start), 4000)

    def test_many_names(self):
        names = ["a" + str(10000 + at) for at in range(700)]
        for text in ("roles " + " ".join(names) + "\nlabels\n", "roles " + " ".join(names) + "\nlabels\nwrap a10000 a10001\nwrap a10000 a10000\n"):
            self.in_seconds(book_text_fault, text)
        self.assertEqual(book_text_fault("roles " + " ".join(names) + "\nlabels\nwrap a10000 a10001\nwrap a10000 a10000\n"), (4, 18))

    def test_things_and_logs(self):
        dice = Dice(2)
        book = Book(TEN, FIVE, [])
        thing = (("own", 999999999), tuple(FIVE * 2))
        for at in range(6):
            thing = ("under", (("made", 999999999 - at), tuple(FIVE * 2)), thing)
        self.assertGreater(self.longest(dice, thing_text, read_thing, thing_text_fault, book, thing), 600)
        deep = "o0(" * 1200 + "g1" + ")" * 1200 + "\n"
        self.assertIsNone(self.in_seconds(thing_text_fault, book, deep))
        self.assertEqual(self.in_seconds(thing_text_fault, book, deep[:-1]), (1, 4803))
        self.assertEqual(self.in_seconds(thing_text_fault, book, deep[:-2] + "\n"), (1, 4802))
        wide = (("given", 1), tuple(FIVE * 110))
        self.longest(dice, thing_text, read_thing, thing_text_fault, book, wide)
        calls = some_calls(dice, book, 60) + [("seal", 0, thing), ("unwrap", 999999999, thing, TEN[9])]
        self.longest(dice, log_text, read_log, log_text_fault, book, calls)
        self.longest(dice, log_text, read_log, log_text_fault, book, [("derive", 100000 + at, FIVE[at % 5], TEN[at % 10]) for at in range(150)])

    def test_machines(self):
        for count in range(4):
            dice, book, start = widest(count)
            self.longest(dice, machine_text, read_machine, machine_text_fault, book, least_machine(book, start))
        book = Book(TEN, FIVE, [])
        machine = grown(book, [], ([(p, q) for p in states_of(book) for q in states_of(book) if p != q], []))
        self.longest(dice, machine_text, read_machine, machine_text_fault, book, (machine[0], [(p, q) for p in states_of(book) for q in states_of(book)]))
