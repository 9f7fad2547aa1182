"""Across the sections: what one says goes on in others, over many small inputs."""

import unittest

from tests.plain import plain_log
from tests.plainrules import all_asked, plain_states
from tests.plainwords import keys_asked, plain_brings, plain_reach
from tests.samples import some_case, some_led, some_log, some_start
from tests.samples_custody import some_custody
from tests.tools import Dice
from underwraps.books import Book, called, start_called
from underwraps.booktexts import book_text, read_book
from underwraps.custodyverdicts import custody_verdict
from underwraps.desks import Desk
from underwraps.errors import WrapError
from underwraps.joining import joined, joined_log, parted_log
from underwraps.leanlogs import is_lean, led_over
from underwraps.logs import log_fault, log_tells, permits_used, played
from underwraps.logtexts import log_text, read_log
from underwraps.lots import is_kept, telling_lots
from underwraps.machines import is_closed, least_machine
from underwraps.machinetexts import machine_text, read_machine
from underwraps.outwords import kind_of
from underwraps.prooflogs import telling_log
from underwraps.settling import reach
from underwraps.several import Houses, houses_fault
from underwraps.shuthouses import falls_shut, known_shut
from underwraps.starttexts import read_start, start_text
from underwraps.thingtexts import read_thing, thing_text
from underwraps.toldkeys import falls_running
from underwraps.twobooks import compared, parting
from underwraps.verdicts import is_bringing, judged, verdict


def written(book, start):
    """Return a book and a start, written as text and read."""
    again = read_book(book_text(book))
    return again, read_start(again, start_text(book, start))


class TestAcross(unittest.TestCase):
    def test_texts_verdicts_lean_logs(self):
        """A verdict of what was written and read; its log led over to a lean one, played, its permits alone."""
        told = never = 0
        for count in range(120):
            _, book, start = some_led(count, 4)
            again, rows = written(book, start)
            self.assertEqual((again, rows), (book, start))
            for asked in all_asked(book, start, 1):
                for state in plain_states(book):
                    word, paper = verdict(again, rows, asked, state)
                    if word == "never":
                        machine = read_machine(book, machine_text(again, paper))
                        self.assertEqual(machine, paper)
                        self.assertEqual(judged(book, start, asked, state, (word, machine)), "never")
                        never += 1
                        continue
                    log = read_log(book, log_text(again, paper))
                    self.assertEqual(log, paper)
                    self.assertTrue(plain_brings(book.all_permits(), start, log, asked, state))
                    lean, _, _ = led_over(book, start, log)
                    self.assertTrue(is_lean(book, start, lean))
                    self.assertTrue(is_bringing(book, start, asked, state, lean))
                    alone = Book(book.all_roles(), book.all_labels(), permits_used(book, start, lean))
                    self.assertTrue(plain_brings(alone.all_permits(), start, lean, asked, state))
                    self.assertIsNone(log_fault(alone, start, log))
                    self.assertIn(compared(alone, book, start), ("less", "alike"))
                    told += 1
        self.assertGreater(min(told, never), 400)

    def test_several_houses(self):
        """One book for several houses, its logs back and forth, as text and read."""
        went = 0
        for count in range(90):
            dice = Dice(count)
            labels = ["x"][:dice.number(2)]
            books = [some_case(Dice(count * 3 + at), 0)[0] for at in range(2)]
            books = [Book(book.all_roles(), labels, [permit for permit in book.all_permits() if permit[0] != "derive"]) for book in books]
            many = dice.number(3)
            starts = [(some_start(dice, book.all_roles(), many) + [[]] * many)[:many] for book in books]
            book, start = joined(books, starts)
            again, rows = written(book, start)
            self.assertEqual((again, rows), (book, start))
            log = some_log(dice, book, start, 10)
            parted = parted_log(books, starts, read_log(again, log_text(book, log)))
            self.assertIsNone(houses_fault(books, starts, parted))
            self.assertEqual(joined_log(books, starts, parted), log)
            house, _, _ = plain_log(book.all_permits(), start, log)
            houses = Houses(books, starts)
            for at, call in parted:
                houses.call(at, call)
            self.assertEqual(houses.out(), house.out)
            for asked in all_asked(book, start, 1):
                if plain_brings(book.all_permits(), start, log, asked, "known"):
                    self.assertEqual(verdict(again, rows, asked, "known")[0], "told")
                    went += 1
        self.assertGreater(went, 100)

    def test_other_names(self):
        """The same under other names."""
        for count in range(100):
            dice, book, start = some_led(count, 4)
            roles = dict(zip(dice.mixed(book.all_roles()), ["b", "make", "zzzzzzzz"]))
            names = roles | dict(zip(dice.mixed(book.all_labels()), ["known", "k"]))
            other, rows = called(book, names), start_called(book, start, names)
            again, given = written(other, rows)
            self.assertEqual((again, given), (other, rows))
            for root, word in all_asked(book, start, 1):
                asked = (roles.get(root, root), tuple([names[label] for label in word]))
                self.assertEqual(sorted([roles.get(state, state) for state in reach(book, start, (root, word))]), reach(other, rows, asked))
                self.assertEqual(kind_of(book, start, (root, word)), kind_of(other, rows, asked))
                self.assertEqual(verdict(book, start, (root, word), "known")[0], verdict(other, rows, asked, "known")[0])
            ties, pairs = least_machine(book, start)
            both = [[(roles.get(p, p), roles.get(q, q)) for p, q in part] for part in (ties, pairs)]
            self.assertTrue(is_closed(other, rows, both))
            self.assertEqual(least_machine(other, rows), tuple([sorted(part) for part in both]))

    def test_an_empty_lot_of_told_keys(self):
        """An empty lot of told keys lets what verdict lets, and what comes out is known when the house is shut."""
        said = {True: 0, False: 0}
        for count in range(100):
            _, book, start = some_led(count, 4)
            for asked in all_asked(book, start, 1):
                told = verdict(book, start, asked, "known")[0] == "told"
                self.assertEqual(falls_running(book, start, [], asked), told)
                self.assertEqual(falls_shut(book, start, [], asked), told)
                self.assertEqual(kind_of(book, start, asked) == "out", told)
                if asked[0] != "known":
                    self.assertEqual(is_kept(book, start, [asked]), not told)
                if told:
                    log, key = telling_log(book, start, asked)
                    self.assertTrue(log_tells(book, start, log, key) and known_shut(book, start, log, [], read_thing(book, thing_text(book, key))))
                    self.assertIn(key[0], [base for base, _ in keys_asked(log, asked)])
                said[told] += 1
        self.assertGreater(min(said.values()), 120)

    def test_desks_and_lots(self):
        """What a desk lets in tells no guarded key; which permits would, with those that are in, are a lot that tells."""
        kept = let = 0
        for count in range(60):
            dice, book, start = some_led(count, 4)
            desk, secrets = Desk(book.all_roles(), book.all_labels()), [(at, ()) for at in range(len(start))]
            for row, secret in zip(start, secrets):
                desk.give(row)
                desk.guard(secret)
            for permit in dice.mixed(book.all_permits())[:9]:
                there = desk.now()[0].all_permits() + [permit]
                more = Book(book.all_roles(), book.all_labels(), there)
                try:
                    desk.allow(permit)
                    let += 1
                except WrapError:
                    self.assertTrue([lot for lot in telling_lots(more, start, secrets) if permit in lot])
                    kept += 1
            now, rows = desk.now()
            self.assertEqual(rows, start)
            self.assertTrue(is_kept(now, rows, secrets))
            self.assertEqual(telling_lots(now, rows, secrets), [])
        self.assertGreater(min(let, kept), 20)

    def test_custodians_and_books(self):
        """What one book lets more than another one, some log of it tells; with custodians nothing comes out less."""
        shown = 0
        for count in range(80):
            dice, book, start, custody, tellers = some_custody(count)
            less = Book(book.all_roles(), book.all_labels(), dice.part(book.all_permits()))
            found = parting(book, less, start)
            if found is not None:
                asked, log, _ = found
                self.assertEqual(played(book, start, log).out(), plain_log(book.all_permits(), start, log)[0].out)
                self.assertTrue("known" in plain_reach(book, start, asked))
                shown += 1
            for asked in all_asked(book, start, 1):
                if verdict(book, start, asked, "known")[0] == "told":
                    self.assertEqual(custody_verdict(book, start, custody, tellers, asked, "known")[0], "told")
        self.assertGreater(shown, 10)
