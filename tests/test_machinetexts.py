"""21.6 to 21.8: machines as text."""

from tests.plainrules import all_pairs, all_ties
from tests.plaintexts import is_machine_text, machine_endings, plain_fault
from tests.samples_texts import changed_texts, some_named
from tests.test_booktexts import BARE, BOOK, TextCase
from tests.tools import Hostile, as_lists, as_tuples, empties, odd_things, ring
from underwraps.books import Book
from underwraps.errors import BadBook, BadMachine
from underwraps.machinetexts import machine_text, machine_text_fault, read_machine
from underwraps.refusals import BadMachineText
from underwraps.states import states_of

MACHINE = ([("kek", "known")], [("data", "data"), ("kek", "known")])
TEXT = "tie kek known\npair data data\npair kek known\n"


class TestMachines(TextCase):
    def test_21_8(self):
        self.assertEqual(machine_text(BOOK, MACHINE), TEXT)
        self.assertEqual(machine_text_fault(BOOK, "tie data data\n"), (1, 10))

    def test_right_ones(self):
        mixed = ([("known", "data"), ("data", "known"), ("data", "kek")], [("kek", "data"), ("data", "kek"), ("kek", "kek")])
        text = "tie data kek\ntie data known\ntie known data\npair data kek\npair kek data\npair kek kek\n"
        for shape in (as_lists, as_tuples):
            self.assertEqual(machine_text(machine=shape(mixed), book=BOOK), text)
        told = read_machine(text=text, book=BOOK)
        self.assertEqual(repr(told), repr((sorted(mixed[0]), sorted(mixed[1]))))
        self.assertIsNone(machine_text_fault(text=text, book=BOOK))
        told[0].clear()
        self.assertEqual(len(read_machine(BOOK, text)[0]), 3)
        self.assertEqual((machine_text(BARE, ([], [])), read_machine(BARE, ""), machine_text_fault(BARE, "")), ("", ([], []), None))
        self.assertEqual(read_machine(BARE, "pair known known\n"), ([], [("known", "known")]))
        every = (all_ties(BOOK), all_pairs(BOOK))
        self.assertEqual(read_machine(BOOK, machine_text(BOOK, every)), every)

    def test_wrong_ones(self):
        states = states_of(BOOK)
        for text, place in [
            ("\n", (1, 1)), ("t", (1, 2)), ("tie", (1, 4)), ("tie\n", (1, 4)), ("tie data\n", (1, 9)), ("tie data data\n", (1, 10)), ("tie data k", (1, 11)), ("tie data kn", (1, 12)),
            ("tie data kek", (1, 13)), ("tie data kek \n", (1, 13)), ("tie data kek\ntie data kek\n", (2, 11)), ("tie data known\ntie data kek\n", (2, 5)),
            ("tie kek data\ntie data kek\n", (2, 5)), ("tie known kek\nt", (2, 1)), ("tie known kek\npair data data\n", None), ("pair data data\ntie data kek\n", (2, 1)),
            ("pair known known\np", (2, 1)), ("pair kek kek\npair kek kek\n", (2, 11)), ("pair kek known\npair kek kek\n", (2, 7)), ("pair kek kex\n", (1, 12)),
            ("pair kek known\npair kn", (2, 8)), ("tie known known\n", (1, 12)), ("tie k", (1, 6)), ("ties\n", (1, 4)), ("Tie data kek\n", (1, 1)), (TEXT[:-1], (3, 15)),
            (TEXT + "\n", (4, 1)), (TEXT + "pair known known\n", None), ("pair data x\n", (1, 11)), ("pair  data\n", (1, 6)),
        ]:
            self.assertEqual(machine_text_fault(BOOK, text), place, repr(text))
            self.assertEqual(plain_fault(text, lambda some: is_machine_text(states, some), lambda some: machine_endings(states, some)), place, repr(text))
            if place is not None:
                self.wrong_at(BadMachineText, place, read_machine, BOOK, text)
        self.assertEqual(machine_text_fault(BARE, "tie"), (1, 1))
        self.assertEqual(machine_text_fault(Book(["a"], [], []), "tie a a"), (1, 7))

    def test_errors(self):
        for thing in [thing for thing in odd_things() + empties() + [b"", [TEXT], ring()] if not isinstance(thing, str)]:
            self.assertEqual(machine_text_fault(BOOK, thing), (0, 0))
            self.wrong_at(BadMachineText, (0, 0), read_machine, BOOK, thing)
        for thing in odd_things() + empties():
            for call in (machine_text, read_machine, machine_text_fault):
                self.raises(BadBook, thing, call, thing, Hostile())
        for thing in [None, "", [], ([],), ([], [], []), ([("data", "data")], []), ([("kek", "data")] * 2, []), ([], [("q", "data")]), Hostile(), {0: [], 1: []}, ([], None)]:
            self.raises(BadMachine, thing, machine_text, BOOK, thing)

    def test_21_7(self):
        right = wrong = 0
        for count in range(150):
            dice, book = some_named(count)
            states = states_of(book)
            machine = (dice.mixed(all_ties(book))[:dice.number(5)], dice.mixed(all_pairs(book))[:dice.number(5)])
            text = machine_text(book, machine)
            self.assertTrue(is_machine_text(states, text))
            self.assertEqual(read_machine(book, text), (sorted(machine[0]), sorted(machine[1])))
            for other in changed_texts(dice, text, 8):
                place = plain_fault(other, lambda some: is_machine_text(states, some), lambda some: machine_endings(states, some))
                self.assertEqual(machine_text_fault(book, other), place, repr(other))
                if place is None:
                    self.assertEqual(machine_text(book, read_machine(book, other)), other)
                    right += 1
                else:
                    self.wrong_at(BadMachineText, place, read_machine, book, other)
                    wrong += 1
        self.assertGreater(min(right, wrong), 200)
