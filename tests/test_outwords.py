"""12.1, 12.4 to 12.7: first words, counts, out, near and safe, alike behind."""

from tests.plainrules import all_asked, all_words, plain_leads, plain_roots
from tests.plainwords import plain_least
from tests.samples import all_permits, some_small
from tests.tools import Dice, WrapCase
from underwraps.books import Book
from underwraps.outwords import all_first, count_first, count_out, first_words, kind_of, parted_behind, shortest_out
from underwraps.tables import least_table, table_row

BOOK = Book(["a", "b", "c"], ["x", "y"], [("derive", "a", "x", "b"), ("derive", "a", "y", "a"), ("derive", "b", "y", "c"), ("show", "c")])
START = [["a"]]
BARE = Book([], [], [])
ONE = Book([], ["x"], [])


class TestExample(WrapCase):
    def test_12_7(self):
        self.assertEqual(first_words(BOOK, START, 0, 3), [("x", "y"), ("y", "x", "y")])
        self.assertIsNone(all_first(BOOK, START, 0))
        self.assertEqual([count_out(BOOK, START, 0, many) for many in (2, 3)], [1, 3])
        self.assertEqual([kind_of(BOOK, START, (0, word)) for word in [(), ("x",), ("x", "x")]], ["near", "near", "safe"])
        self.assertIsNone(parted_behind(BOOK, START, (0, ()), (0, ("y",))))
        self.assertEqual(parted_behind(BOOK, START, (0, ()), (0, ("x",))), ("y",))


class TestFirstWords(WrapCase):
    def test_edges(self):
        for many in (0, 1, 5, 60):
            self.assertEqual(first_words(BARE, [], "known", many), [()])
            self.assertEqual(first_words(many=many, root=0, start=[[]], book=ONE), [])
            self.assertEqual(first_words(ONE, [], "known", many), [()])
        self.assertEqual(first_words(BOOK, START, 0, 0), [])
        self.assertEqual(first_words(BOOK, START, 0, 1), [])
        self.assertEqual(first_words(BOOK, START, 0, 2), [("x", "y")])
        chain = Book(["a", "b"], ["x", "y"], [("derive", "a", "x", "b"), ("derive", "a", "y", "b"), ("show", "b")])
        self.assertEqual(first_words(chain, [["a"]], 0, 10 ** 20), [("x",), ("y",)])

    def test_all_words_gone_through(self):
        some = {True: 0, False: 0}
        for count in range(150):
            _, book, start = some_small(count)
            for root in plain_roots(book, start):
                out = self.words_out(book, start, root, 4)
                firsts = [word for word in out if not any([word[:many] in out for many in range(len(word))])]
                self.assertEqual(first_words(book, start, root, 4), firsts)
                some[bool(firsts)] += 1
                if firsts:
                    self.assertTrue(len(firsts[0]) == 0 or len(firsts[0]) < len(book.all_roles()))
                for word in all_words(book.all_labels(), 4):
                    begun = [first for first in firsts if word[:len(first)] == first]
                    self.assertEqual(word in out, len(begun) == 1)
                    self.assertLessEqual(len(begun), 1)
        self.assertGreater(min(some.values()), 50)

    def words_out(self, book, start, root, many):
        ties, _ = plain_least(book, start)
        return [word for word in all_words(book.all_labels(), many) if "known" in plain_leads(book, start, ties, (root, word))]

    def test_counts(self):
        ends = {True: 0, False: 0}
        for count in range(150):
            _, book, start = some_small(count + 500)
            labels = book.all_labels()
            for root in plain_roots(book, start):
                out = self.words_out(book, start, root, 4)
                firsts = [word for word in out if not any([word[:many] in out for many in range(len(word))])]
                for many in range(5):
                    self.assertEqual(count_out(book, start, root, many), len([word for word in out if len(word) == many]))
                    self.assertEqual(count_first(book, start, root, many), len([word for word in firsts if len(word) == many]))
                for many in range(12):
                    more = count_out(book, start, root, many + 1)
                    self.assertEqual(more, count_out(book, start, root, many) * len(labels) + count_first(book, start, root, many + 1))
                ends[self.ends(book, start, root)] += 1
        self.assertGreater(min(ends.values()), 10)

    def ends(self, book, start, root):
        """Look at all_first, by 12.4; tell whether there is an end of first words."""
        table, labels = least_table(book, start, root), book.all_labels()

        def to(row):
            todo, reached = [row], set()
            while todo:
                for step in table[todo.pop()][1]:
                    if step not in reached:
                        reached.add(step)
                        todo.append(step)
            return reached

        endless = any([not out and row in to(row) and any([table[step][0] for step in to(row)]) for row, (out, _) in enumerate(table)])
        told = all_first(book, start, root)
        self.assertEqual(told is None, endless)
        if not endless:
            words = first_words(book, start, root, len(table) + 2)
            self.assertEqual(told, len(words))
            self.assertEqual(told, sum([count_first(book, start, root, many) for many in range(len(table) + 2)]))
        self.assertTrue(labels or not endless)
        return not endless

    def test_count_edges(self):
        self.assertEqual([count_out(BARE, [], "known", many) for many in (0, 1, 60)], [1, 0, 0])
        self.assertEqual([count_first(BARE, [], "known", many) for many in (0, 1, 60)], [1, 0, 0])
        self.assertEqual([count_out(ONE, [[]], root, 60) for root in ("known", 0)], [1, 0])
        self.assertEqual([all_first(ONE, [[]], root) for root in ("known", 0)], [1, 0])
        self.assertEqual(all_first(root="known", start=(), book=BARE), 1)
        self.assertEqual(all_first(BARE, [[]], 0), 0)
        three = Book(["a"], ["x", "y", "z"], [("show", "a")])
        self.assertEqual(count_out(many=60, root=0, start=[["a"]], book=three), 3 ** 60)
        self.assertEqual(count_first(many=60, root=0, start=[["a"]], book=three), 0)
        # All words of one label y, and any number of x ahead: one first word of each length from one label on.
        book = Book(["a", "b"], ["x", "y"], [("derive", "a", "x", "a"), ("derive", "a", "y", "b"), ("show", "b")])
        self.assertEqual([count_first(book, [["a"]], 0, many) for many in (0, 1, 2, 60)], [0, 1, 1, 1])
        self.assertEqual(count_out(book, [["a"]], 0, 60), 2 ** 60 - 1)


class TestKinds(WrapCase):
    def test_edges(self):
        self.assertEqual(kind_of(BARE, [], ("known", ())), "out")
        self.assertEqual(shortest_out(BARE, [], ("known", ())), ())
        self.assertEqual(kind_of(asked=[0, []], start=((),), book=BARE), "safe")
        self.assertIsNone(shortest_out(asked=[0, []], start=((),), book=BARE))
        self.assertEqual(shortest_out(BOOK, START, (0, ())), ("x", "y"))
        self.assertEqual(shortest_out(BOOK, START, (0, ["x"])), ("y",))
        self.assertEqual(shortest_out(BOOK, START, (0, ("y",) * 10)), ("x", "y"))
        self.assertEqual(shortest_out(BOOK, START, ("known", ("y", "x"))), ())
        self.assertIsNone(shortest_out(BOOK, START, (0, ("x", "x"))))

    def test_all_words_gone_through(self):
        kinds = {"out": 0, "near": 0, "safe": 0}
        for count in range(120):
            _, book, start = some_small(count)
            ties, _ = plain_least(book, start)
            for asked in all_asked(book, start, 2):
                out = [word for word in all_words(book.all_labels(), 6 if len(book.all_labels()) < 2 else 4) if "known" in plain_leads(
                    book, start, ties, (asked[0], asked[1] + word))]
                kind = "safe" if not out else "near" if out[0] else "out"
                self.assertEqual(kind_of(book, start, asked), kind)
                self.assertEqual(shortest_out(book, start, asked), (out + [None])[0])
                kinds[kind] += 1
                # What comes behind what is out is out.
                if kind == "out":
                    for label in book.all_labels():
                        self.assertEqual(kind_of(book, start, (asked[0], asked[1] + (label,))), "out")
        self.assertGreater(min(kinds.values()), 40)


class TestPartedBehind(WrapCase):
    def test_edges(self):
        book = Book(["a", "b"], ["x"], [("derive", "a", "x", "b"), ("show", "b"), ("make", "a")])
        start = [["a"], ["b"], []]
        for asked, mate, word in [
            ((0, ()), ("a", ()), None), ((0, ()), (1, ()), ()), ((0, ()), (2, ()), ("x",)), ((2, ()), (0, ["x", "x"]), ()),
            ((1, ()), ("known", ["x"]), None), ((2, ["x"]), (2, ()), None), ((0, ()), (0, ()), None), ((2, ()), ("a", ()), ("x",)),
        ]:
            self.assertEqual(parted_behind(book, start, asked, mate), word)
            self.assertEqual(parted_behind(mate=asked, asked=mate, start=start, book=book), word)
        self.assertIsNone(parted_behind(BARE, [[], []], (0, ()), (1, ())))
        self.assertEqual(parted_behind(BARE, [[]], (0, ()), ("known", ())), ())

    def test_all_words_gone_through(self):
        some = {True: 0, False: 0}
        for count in range(70):
            dice, book, start = some_small(count)
            ties, _ = plain_least(book, start)
            every = all_asked(book, start, 2)
            for asked, mate in [(dice.one(every), dice.one(every)) for _ in range(25)]:
                words = all_words(book.all_labels(), 4)
                parting = [word for word in words if (
                    "known" in plain_leads(book, start, ties, (asked[0], asked[1] + word))) != (
                    "known" in plain_leads(book, start, ties, (mate[0], mate[1] + word)))]
                told = parted_behind(book, start, asked, mate)
                self.assertEqual(told, (parting + [None])[0])
                some[told is None] += 1
                if told is None:
                    for label in book.all_labels():
                        self.assertIsNone(parted_behind(book, start, (asked[0], asked[1] + (label,)), (mate[0], mate[1] + (label,))))
        self.assertGreater(min(some.values()), 100)

    def test_as_many_as_rows(self):
        for count in range(60):
            _, book, start = some_small(count)
            for root in plain_roots(book, start):
                table, unlike = least_table(book, start, root), []
                for word in all_words(book.all_labels(), 4):
                    if all([parted_behind(book, start, (root, word), (root, other)) is not None for other in unlike]):
                        unlike.append(word)
                self.assertEqual(len(unlike), len(table))
                self.assertEqual([table_row(book, table, word) for word in unlike], list(range(len(table))))

    def test_everything_and_nothing(self):
        dice = Dice(5)
        for permits, kind in [(all_permits(["a", "b"], ["x", "y"]), "out"), ([], "safe")]:
            book = Book(["a", "b"], ["x", "y"], permits)
            for _ in range(20):
                asked = (dice.number(2), tuple(dice.some(["x", "y"], 10)))
                self.assertEqual(kind_of(book, [["a"], ["a", "b"]], asked), kind)
                self.assertIsNone(parted_behind(book, [["a"], ["a", "b"]], asked, (0, ())))
