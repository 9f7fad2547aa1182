"""12.2, 12.3, 12.7: tables, the least one, roads, parting words."""

from tests.plainrules import all_words, plain_roots
from tests.plainwords import joined_table, parted_lots, plain_least, plain_reach, plain_rows
from tests.samples import some_small
from tests.tools import Dice, Hostile, Odd, WrapCase, as_lists, as_tuples, empties, odd_things
from underwraps.books import Book
from underwraps.tables import is_table, least_table, parting_word, road_to, table_row

BOOK = Book(["a", "b", "c"], ["x", "y"], [("derive", "a", "x", "b"), ("derive", "a", "y", "a"), ("derive", "b", "y", "c"), ("show", "c")])
START = [["a"]]
LEAST = [(False, (1, 0)), (False, (2, 3)), (False, (2, 2)), (True, (3, 3))]
BARE = Book([], [], [])
ONE = Book([], ["x"], [])


def some_table(dice, labels):
    """Return a table of at most six rows."""
    many = 1 + dice.number(6)
    return [(dice.number(3) == 0, tuple([dice.number(many) for _ in labels])) for _ in range(many)]


class TestExample(WrapCase):
    def test_12_7(self):
        self.assertEqual(least_table(BOOK, START, 0), LEAST)


class TestIsTable(WrapCase):
    def test_ordinary(self):
        for table in (LEAST, as_lists(LEAST), as_tuples(LEAST), LEAST * 3, [(True, (0, 0))], LEAST + [(True, [0, 1])]):
            self.says(True, is_table(thing=table, book=BOOK))
        for table in ([(True, ())], ((False, []),), [(True, ()), (True, ())]):
            self.says(True, is_table(BARE, table))
            self.says(False, is_table(BOOK, table))
        self.says(True, is_table(ONE, [(False, (1,)), (True, (0,))]))

    def test_none(self):
        wrong = [
            [(0, (0, 0))], [(1, (0, 0))], [(False, (0, False))], [(False, (0, 1))], [(False, (-1, 0))], [(False, (0,))],
            [(False, (0, 0, 0))], [(False, 0, 0)], [(False,)], LEAST[:3], LEAST + [None], "", {}, {0: LEAST[0]}, [(None, (0, 0))],
            [(False, (0, 0.0))], [(False, ("0", 0))], [(Hostile(), (0, 0))], [(False, Hostile())], [Hostile()], [(Odd(), (0, 0))],
            [("False", (0, 0))], [(False, "00")], [(False, {0: 1, 1: 0})], [(False, {0, 1})], iter(LEAST),
        ]
        for thing in odd_things() + empties() + wrong:
            self.says(False, is_table(BOOK, thing))


class TestTableRow(WrapCase):
    def test_ordinary(self):
        for word, row in [((), 0), (("x",), 1), (["y"], 0), (("y", "x", "y", "x", "x"), 3), (("x", "x", "y"), 2), (("x",) * 100, 2)]:
            self.assertEqual(table_row(BOOK, LEAST, word), row)
            self.assertEqual(table_row(word=list(word), table=as_lists(LEAST), book=BOOK), row)
        self.assertEqual(table_row(BARE, [(False, ())], ()), 0)
        self.assertEqual(table_row(ONE, [(False, (1,)), (True, (0,))], ("x",) * 61), 1)


class TestLeastTable(WrapCase):
    def test_edges(self):
        self.assertEqual(least_table(BARE, [], "known"), [(True, ())])
        self.assertEqual(least_table(root=0, start=((),), book=BARE), [(False, ())])
        self.assertEqual(least_table(ONE, [[]], "known"), [(True, (0,))])
        self.assertEqual(least_table(ONE, [[]], 0), [(False, (0,))])
        book = Book(["a"], ["x"], [("derive", "a", "x", "a"), ("make", "a")])
        self.assertEqual(least_table(book, [["a"]], "a"), [(False, (0,))])
        book = Book(["a"], ["x"], [("derive", "a", "x", "a"), ("make", "a"), ("show", "a")])
        for root in (0, "a", "known"):
            self.assertEqual(least_table(book, [["a"]], root), [(True, (0,))])
        chain = Book(["a", "b", "c"], ["x"], [("derive", "a", "x", "b"), ("derive", "b", "x", "c"), ("show", "c")])
        self.assertEqual(least_table(chain, [["a"]], 0), [(False, (1,)), (False, (2,)), (True, (2,))])

    def test_rows_joined_that_no_word_parts(self):
        sizes = {}
        for count in range(170):
            _, book, start = some_small(count)
            for root in plain_roots(book, start):
                table = least_table(book, start, root)
                rows, first = plain_rows(book, start, root)
                self.assertEqual(table, joined_table(rows, first))
                sizes[len(table)] = sizes.get(len(table), 0) + 1
                self.says(True, is_table(book, table))
                self.holds(book, start, root, table)
        self.assertGreater(len(sizes), 3)
        self.assertGreater(sum([sizes[size] for size in sizes if size > 2]), 20)

    def holds(self, book, start, root, table):
        """Look at all that 12.2 and 12.3 say of a least table."""
        labels, roles = book.all_labels(), book.all_roles()
        out = [row for row in range(len(table)) if table[row][0]]
        self.assertLessEqual(len(out), 1)
        for row in out:
            self.assertEqual(set(table[row][1]), {row} if labels else set())
        self.assertLessEqual(len(table), 2 ** len(roles) + 1)
        ahead = [road_to(book, table, row) for row in range(len(table))]
        self.assertNotIn(None, ahead)
        self.assertEqual(ahead, sorted(ahead, key=lambda word: (len(word), word)))
        never = [row for row in range(len(table)) if not any([table_row(book, table, ahead[row] + word) in out for word in all_words(
            labels, len(table))])] if len(table) < 5 else []
        self.assertLessEqual(len(never), 1)
        for row in range(len(table)):
            for mate in range(row):
                word = parting_word(book, table, row, mate)
                self.assertLessEqual(len(word), max(0, len(table) - 2))
        for word in all_words(labels, 4):
            self.assertEqual(table[table_row(book, table, word)][0], "known" in plain_reach(book, start, (root, word)))

    def test_all_lots_together(self):
        book = Book(["a", "b"], ["x"], [("derive", "a", "x", "b"), ("show", "b")])
        rows, first = plain_rows(book, [["a"]], 0)
        self.assertEqual(len(rows), 8)
        self.assertTrue(parted_lots(rows))
        self.assertEqual(joined_table(rows, first), [(False, (1,)), (True, (1,))])
        self.assertEqual(plain_least(book, [["a"]])[0], {("b", "known")})


class TestRoads(WrapCase):
    def test_ordinary(self):
        for table in (LEAST, as_lists(LEAST)):
            told = [road_to(BOOK, table, row) for row in range(4)]
            self.assertEqual(told, [(), ("x",), ("x", "x"), ("x", "y")])
        self.assertIsNone(road_to(BOOK, [(True, (0, 0)), (True, (0, 0))], 1))
        self.assertEqual(road_to(row=0, table=[(True, ())], book=BARE), ())
        self.assertIsNone(road_to(BARE, [(True, ()), (True, ())], 1))

    def test_first_word(self):
        some = {True: 0, False: 0}
        for count in range(150):
            dice = Dice(count)
            labels = ["x", "y", "z"][:1 + dice.number(3)]
            book, table = Book([], labels, []), some_table(dice, labels)
            words = all_words(labels, len(table) - 1)
            for row in range(len(table)):
                right = [word for word in words if table_row(book, table, word) == row]
                self.assertEqual(road_to(book, table, row), (right + [None])[0])
                some[bool(right)] += 1
        self.assertGreater(min(some.values()), 50)


class TestParting(WrapCase):
    def test_ordinary(self):
        for table in (LEAST, as_lists(LEAST), as_tuples(LEAST)):
            told = {(row, mate): parting_word(BOOK, table, row, mate) for row in range(4) for mate in range(4)}
            for (row, mate), word in told.items():
                self.assertEqual(told[mate, row], word)
                self.assertEqual(word is None, row == mate)
            self.assertEqual(told[0, 1], ("y",))
            self.assertEqual(told[0, 2], ("x", "y"))
            self.assertEqual(told[2, 3], ())
        self.assertIsNone(parting_word(mate=1, row=0, table=[(True, ()), (True, ())], book=BARE))
        self.assertEqual(parting_word(BARE, [(True, ()), (False, ())], 0, 1), ())

    def test_first_word(self):
        some = {True: 0, False: 0}
        for count in range(110):
            dice = Dice(count)
            labels = ["x", "y"][:1 + dice.number(2)]
            book, table = Book([], labels, []), some_table(dice, labels)
            words = all_words(labels, len(table))

            def led(row, word, table=table, labels=labels):
                for label in word:
                    row = table[row][1][labels.index(label)]
                return table[row][0]

            for row in range(len(table)):
                for mate in range(len(table)):
                    right = [word for word in words if led(row, word) != led(mate, word)]
                    self.assertEqual(parting_word(book, table, row, mate), (right + [None])[0])
                    some[bool(right)] += 1
        self.assertGreater(min(some.values()), 200)

    def test_fewest_rows_exactly_if_roads_and_parting_words(self):
        for count in range(120):
            dice, book, start = some_small(count)
            for root in plain_roots(book, start):
                least = least_table(book, start, root)
                # Rows told twice, and mixed, but for the first one: right still, and not the fewest.
                many = len(least)
                twice = [(out, tuple([step + many * dice.number(2) for step in steps])) for out, steps in least + least]
                for table in (least, twice):
                    rows = range(len(table))
                    right = all([road_to(book, table, row) is not None for row in rows]) and all(
                        [parting_word(book, table, row, mate) is not None for row in rows for mate in range(row)])
                    self.assertEqual(right, len(table) == many)
                    for word in all_words(book.all_labels(), 3):
                        self.assertEqual(table[table_row(book, table, word)][0], least[table_row(book, least, word)][0])
