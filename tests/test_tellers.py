"""19.6, 19.7: who must not tell: least lists of tellers, least lists of loyal custodians."""

from tests.each import NO_ASKED
from tests.plaincustody import all_tellers, names_of, plain_custody_leads, plain_custody_least
from tests.plainrules import all_asked
from tests.samples_custody import some_custody
from tests.test_custodies import BARE, BOOK, CUSTODY, NO_CUSTODIES, NONE, OPENS
from tests.tools import Hostile, WrapCase, as_lists, as_tuples
from underwraps.books import Book
from underwraps.errors import BadAsked
from underwraps.refusals import BadCustody
from underwraps.tellers import least_loyal, least_tellers

TWO = [["ann", "bob"], ["ann", "cyd"], ["bob", "cyd"]]


class TestExample(WrapCase):
    def test_19_7(self):
        self.assertEqual(least_tellers(BOOK, [], CUSTODY, ("k", [])), TWO)
        self.assertEqual(least_loyal(BOOK, [], CUSTODY, ("k", [])), TWO)
        self.assertEqual(least_tellers(OPENS, [], CUSTODY, ("k", [])), [[]])
        self.assertEqual(least_loyal(OPENS, [], CUSTODY, ("k", [])), [])


class TestTellers(WrapCase):
    def test_edges(self):
        self.assertEqual(least_tellers(BARE, [], NONE, ("known", ())), [[]])
        self.assertEqual(least_loyal(BARE, [], NONE, ("known", ())), [])
        self.assertEqual(least_tellers(BARE, [[]], NONE, (0, ())), [])
        self.assertEqual(least_loyal(BARE, [[]], NONE, (0, ())), [[]])
        many, one = (4, CUSTODY[1], ["a"]), (1, CUSTODY[1], [])
        self.assertEqual(least_tellers(BOOK, [], many, ("k", ())), [])
        self.assertEqual(least_loyal(BOOK, [], many, ("k", ())), [[]])
        self.assertEqual(least_tellers(BOOK, [], one, ("k", ())), [["ann"], ["bob"], ["cyd"]])
        self.assertEqual(least_loyal(BOOK, [], one, ("k", ())), [["ann", "bob", "cyd"]])
        three = (3, CUSTODY[1], [])
        self.assertEqual(least_tellers(BOOK, [], three, ("k", ())), [["ann", "bob", "cyd"]])
        self.assertEqual(least_loyal(BOOK, [], three, ("k", ())), [["ann"], ["bob"], ["cyd"]])
        # One custodian tells what the other key lies under.
        book = Book(["d", "k"], [], [("wrap", "k", "d")])
        custody = (1, [("k", "ann"), ("d", "bob")], [])
        self.assertEqual(least_tellers(book, [["k"], ["d"]], custody, (1, ())), [["ann"], ["bob"]])
        self.assertEqual(least_tellers(book, [["k"], ["d"]], custody, (0, ())), [["ann"]])
        self.assertEqual(least_loyal(book, [["k"], ["d"]], custody, (0, ())), [["ann"]])

    def test_shorter_ones_do_not_stand_ahead(self):
        # Either key is known, and may be joined by those who hold parts of it together with who tells.
        book = Book(["d", "j", "r", "s"], [], [("show", "r"), ("show", "s"), ("wrap", "j", "d")])
        custody = (3, [("r", "ann"), ("r", "bob"), ("s", "cyd")], ["j"])
        start = [["r"], ["s"], ["d"]]
        self.assertEqual(least_tellers(book, start, custody, (2, ())), [["ann", "bob"], ["cyd"]])
        self.assertEqual(least_loyal(book, start, custody, (2, ())), [["ann", "cyd"], ["bob", "cyd"]])

    def test_forms(self):
        for shape in (as_lists, as_tuples):
            for call in (least_tellers, least_loyal):
                told = call(asked=shape(("k", ())), custody=shape(CUSTODY), start=shape([]), book=BOOK)
                self.assertEqual(repr(told), repr(TWO))
                told[0].clear()
                self.assertEqual(call(BOOK, [], CUSTODY, ("k", ())), TWO)

    def test_wrong(self):
        for call in (least_tellers, least_loyal):
            for thing in NO_CUSTODIES:
                self.raises(BadCustody, thing, call, BOOK, [], thing, Hostile())
            for thing in NO_ASKED + [("a", ())]:
                self.raises(BadAsked, thing, call, BOOK, [], CUSTODY, thing)

    def test_19_6_by_all_lists(self):
        sizes = {}
        for count in range(160):
            dice, book, start, custody, _ = some_custody(count)
            names, lists = names_of(custody), all_tellers(custody)
            ties = {tuple(some): plain_custody_least(book, start, custody, some)[0] for some in lists}
            for asked in all_asked(book, start, 1):
                out = {some: "known" in plain_custody_leads(book, start, custody, some, ties[some], asked) for some in ties}
                for some in out:
                    self.assertTrue(all([out[other] for other in out if out[some] and set(some) <= set(other)]))
                telling = [set(some) for some in out if out[some]]
                tellers = sorted([sorted(some) for some in telling if not any([other < some for other in telling])])
                loyal = [set(some) for some in out if not out[tuple([name for name in names if name not in some])]]
                least = sorted([sorted(some) for some in loyal if not any([other < some for other in loyal])])
                shown = dice.one([custody, as_lists(custody)])
                self.assertEqual(least_tellers(book, start, shown, asked), tellers)
                self.assertEqual(least_loyal(book, start, shown, asked), least)
                for some in out:
                    self.assertEqual(out[some], all([set(some) & set(other) for other in least]))
                    kept = set(some) in loyal
                    self.assertEqual(kept, all([set(some) & set(other) for other in tellers]))
                sizes[len(tellers)] = sizes.get(len(tellers), 0) + 1
                if tellers == [[]]:
                    self.assertEqual(least, [])
        for many in (0, 1, 2, 3):
            self.assertGreater(sizes[many], 20)
