"""13.1, 13.2, 13.4, 13.5, 13.7: groups, group tables, what is first wrong in them, what they keep apart."""

from tests.plain import plain_log
from tests.plainrules import all_asked, all_ties, plain_roots, plain_states
from tests.plaintiers import all_lots, grown_table, plain_bunches, plain_group_fault, plain_groups
from tests.plainwords import keys_asked, plain_brings, plain_least, plain_reach
from tests.samples import all_permits, some_case, some_small
from tests.tools import Dice, Hostile, Odd, WrapCase, as_lists, as_tuples, empties, odd_things, ring
from underwraps.books import Book
from underwraps.groups import group_fault, group_table, groups, keeps_apart
from underwraps.machines import least_machine
from underwraps.states import roots_of
from underwraps.togethers import together

BOOK = Book(["a", "b", "w"], ["x"], [("derive", "w", "x", "a"), ("copy", "a", "b"), ("wrap", "b", "w")])
START = [["w"], ["a", "w"]]
TABLE = ([("a", "b")], [[["a", "b"], ["w"]], [["a", "b", "w"]], [["known"]]])
BARE = Book([], [], [])


class TestExample(WrapCase):
    def test_13_7(self):
        self.assertEqual(groups(BOOK, START, 0), [["a", "b"], ["w"]])
        self.assertEqual(groups(BOOK, START, 1), [["a", "b", "w"]])
        self.assertEqual(group_table(BOOK, START), TABLE)
        self.assertEqual(roots_of(BOOK, START), [0, 1, "known"])
        self.says(True, keeps_apart(BOOK, START, 0, ["b", "w"], TABLE))


class TestGroups(WrapCase):
    def test_edges(self):
        self.assertEqual(groups(BARE, [], "known"), [["known"]])
        self.assertEqual(groups(root=0, start=((),), book=BARE), [[]])
        self.assertEqual(groups(Book(["a"], ["x"], [("derive", "a", "x", "a")]), [[], ["a"]], 0), [[]])
        self.assertEqual(groups(Book(["a"], ["x"], []), [["a"]], 0), [["a"]])
        self.assertEqual(groups(Book(["a", "b"], ["x"], [("derive", "a", "x", "b")]), [["a"]], 0), [["a"], ["b"]])
        every = Book(["a", "b"], ["x"], all_permits(["a", "b"], ["x"]))
        for root in (1, "a", "b", "known"):
            self.assertEqual(groups(every, [[], ["b"]], root), [["a", "b", "known"]])
        self.assertEqual(groups(every, [[], ["b"]], 0), [[]])

    def test_more_than_pairs(self):
        goes = [("w", "x", "a"), ("w", "x", "b"), ("a", "x", "b"), ("b", "x", "c"), ("b", "y", "c"), ("a", "y", "a")]
        book = Book(["a", "b", "c", "w"], ["x", "y"], [("derive", *go) for go in goes])
        self.assertEqual(groups(book, [["w"]], 0), [["a", "b"], ["a", "c"], ["b", "c"], ["w"]])

    def test_going_through_all_lots(self):
        many = {}
        for count in range(150):
            _, book, start = some_small(count)
            for root in plain_roots(book, start):
                told = groups(book, start, root)
                self.assertEqual(told, plain_groups(book, start, root))
                many[len(told)] = many.get(len(told), 0) + 1
        self.assertGreater(len(many), 2)
        self.assertGreater(many[2], 10)

    def test_behind_logs(self):
        """What a key has at once behind some log is in one group."""
        looked = 0
        for count in range(150):
            book, start, log = some_case(Dice(count), 16)
            house, _, _ = plain_log(book.all_permits(), start, log)
            bases = {("given", number): number for number in range(len(start))}
            bases.update({("made", number): role for number, role in enumerate([call[1] for call in log if call[0] == "make"])})
            for key, _ in house.handles:
                root = bases.get(key[0], "known")
                has = {role for other, role in house.handles if other == key}
                if plain_brings(book.all_permits(), start, log, (root, key[1]), "known") and len(keys_asked(log, (root, key[1]))) == 1:
                    has.add("known")
                self.assertTrue(any([has <= set(group) for group in groups(book, start, root)]))
                looked += len(has) > 1
        self.assertGreater(looked, 200)


class TestGroupFault(WrapCase):
    def fault(self, ties, table, book=BOOK, start=tuple(START)):
        told = group_fault(book, start, (ties, table))
        for shape in (as_lists, as_tuples):
            self.assertEqual(group_fault(thing=shape((ties, table)), start=start, book=book), told)
        return told

    def test_each(self):
        ties, (zero, one, known) = TABLE
        self.assertIsNone(self.fault(ties, [zero, one, known]))
        self.assertIsNone(self.fault(ties, [zero[::-1], one, known]))
        self.assertIsNone(self.fault(ties, [zero, one + [[]], known]))
        wide = [["a", "b", "known", "w"]]
        for table in ([wide, one, known], [zero, wide, known], [zero, one, wide]):
            self.assertIn(self.fault(ties, table), (None, ("lacks", ("w", "known"))))
        self.assertIsNone(self.fault(all_ties(BOOK), [wide] * 3))
        for told, table in [
            (("start", 0), [[["a", "b"]], one, known]), (("start", 1), [zero, [["a", "b"], ["w"]], known]),
            (("start", "known"), [zero, one, [["a", "b"]]]), (("start", 0), [[["a"]], [["a"]], [["a"]]]),
            (("over", 0, 0, ("a", "b")), [[["a"], ["w"]], one, known]), (("over", 0, 2, ("a", "b")), [zero + [["a", "w"]], one, known]),
            (("over", 1, 1, ("a", "b")), [zero, one + [["a"]], known]), (("go", 0, 0, "x"), [[["w"]], one, known]),
            (("go", 0, 1, "x"), [[["b"], ["w"]], one, known]), (("over", 1, 0, ("a", "b")), [[["w"]], [["a", "w"]], known]),
        ]:
            self.assertEqual(self.fault(ties, table), told)
        self.assertEqual(self.fault([], TABLE[1]), ("lacks", ("a", "b")))
        self.assertEqual(self.fault([("b", "a"), ("w", "a")], [[["a", "b", "w"]]] * 2 + [known]), ("lacks", ("a", "b")))
        self.assertEqual(self.fault([("b", "w"), ("a", "known")], [[["a", "w"]], [["a", "b", "w"]], known]), ("over", 0, 0, ("a", "known")))

    def test_labels_ascending(self):
        book = Book(["a", "b"], ["x", "y"], [("derive", "a", "x", "b"), ("derive", "a", "y", "b")])
        self.assertEqual(self.fault([], [[["a"]], [["known"]]], book, [["a"]]), ("go", 0, 0, "x"))
        book = Book(["a", "b"], ["x", "y"], [("derive", "a", "x", "a"), ("derive", "a", "y", "b")])
        self.assertEqual(self.fault([], [[["a"]], [["known"]]], book, [["a"]]), ("go", 0, 0, "y"))
        book = Book(["a", "b"], ["x", "y"], [("derive", "a", "y", "a"), ("derive", "a", "y", "b")])
        self.assertEqual(self.fault([], [[["a"], ["b"]], [["known"]]], book, [["a"]]), ("go", 0, 0, "y"))

    def test_form(self):
        ties, table = TABLE
        wrong = [
            (ties,), (ties, table, 0), (table, ties), (ties, table[:2]), (ties, table + [[["known"]]]), (ties, table[:2] + [[]]),
            (ties, []), (ties * 2, table), ([("a", "a")], table), ([("a", "q")], table), (None, table), (ties, None), ("", table),
            (ties, {}), (ties, table[:2] + [[["known"], ["known"]]]), (ties, table[:2] + [[["known", "a"]]]),
            (ties, table[:2] + [[["known", "known"]]]), (ties, table[:2] + [[["known"], None]]), (ties, table[:2] + [["known"]]),
            (ties, table[:2] + ["known"]), (ties, table[:2] + [[[0]]]), (ties, table[:2] + [[["q"]]]), (ties, [["a"], ["b"], ["w"]]),
            (ties, table[:2] + [[[Hostile()]]]), (ties, table[:2] + [[Hostile()]]), (ties, table[:2] + [Hostile()]), (Hostile(), table),
            (ties, Hostile()), ([Hostile()], table), (ties, table[:2] + [ring()]), (ties, table[:2] + [[True]]), {0: ties, 1: table}, Odd(),
            (ties, dict(enumerate(table))), (ties, table[:2] + [[{"known"}]]), (ties, table[:2] + [[{"known": 0}]]),
        ]
        for thing in odd_things() + empties() + wrong:
            self.assertEqual(group_fault(BOOK, START, thing), ("form", 0))
            self.says(False, keeps_apart(BOOK, START, 0, ["w"], thing))

    def test_as_a_plain_reading(self):
        said = {}
        for count in range(170):
            dice, book, start = some_small(count)
            ties, table = group_table(book, start)
            lots = [sorted(lot) for lot in all_lots(plain_states(book))]
            for _ in range(12):
                more, other = list(ties), as_lists(table)
                for _ in range(dice.number(3)):
                    if dice.number(3) == 0:
                        more = [tie for tie in all_ties(book) if (tie in more) != (dice.number(4) == 0)]
                    else:
                        row = dice.one(other)
                        row[dice.number(len(row))] = dice.one(lots)
                        if dice.number(2):
                            row.insert(dice.number(len(row) + 1), dice.one(lots))
                other = [[group for at, group in enumerate(row) if group not in row[:at]] for row in other]
                wanted = plain_group_fault(book, start, more, other)
                self.assertEqual(group_fault(book, start, (dice.mixed(more), other)), wanted)
                said[wanted and wanted[0]] = said.get(wanted and wanted[0], 0) + 1
        for word in (None, "start", "over", "go", "lacks"):
            self.assertGreater(said[word], 20)


class TestGroupTable(WrapCase):
    def test_edges(self):
        self.assertEqual(group_table(BARE, []), ([], [[["known"]]]))
        self.assertEqual(group_table(start=((),), book=BARE), ([], [[[]], [["known"]]]))
        self.assertEqual(group_table(Book(["a"], [], [("make", "a")]), [])[1], [[["a"]], [["known"]]])

    def test_each_right_one_has_it_all(self):
        more = 0
        for count in range(110):
            dice, book, start = some_small(count)
            ties, table = group_table(book, start)
            self.assertEqual(ties, least_machine(book, start)[0])
            self.assertEqual(set(ties), plain_least(book, start)[0])
            self.assertEqual(table, [plain_groups(book, start, root) for root in plain_roots(book, start)])
            self.assertIsNone(group_fault(book, start, (ties, table)))
            self.assertIsNone(plain_group_fault(book, start, ties, table))
            for _ in range(4):
                seeds = {root: [set(dice.part(plain_states(book)))] for root in plain_roots(book, start) if dice.number(3) == 0}
                other = grown_table(dice, book, start, dice.some(all_ties(book), dice.number(2)) if all_ties(book) else [], seeds)
                self.assertIsNone(group_fault(book, start, other))
                self.assertLessEqual(set(ties), set(other[0]))
                for row, others in zip(table, other[1]):
                    self.assertTrue(all([any([set(group) <= set(wide) for wide in others]) for group in row]))
                more += other[0] != ties
        self.assertGreater(more, 100)


class TestKeepsApart(WrapCase):
    def test_ordinary(self):
        for states, kept in [(["b", "w"], True), (["w", "b"], True), (["a", "b"], False), (["w"], False), (["known"], True)]:
            for table in (TABLE, as_lists(TABLE), as_tuples(TABLE)):
                self.says(kept, keeps_apart(BOOK, START, 0, states, table))
                self.says(kept, keeps_apart(thing=table, states=tuple(states), root=0, start=START, book=BOOK))
        self.says(False, keeps_apart(BOOK, START, 1, ["b", "w"], TABLE))
        self.says(True, keeps_apart(BOOK, START, "known", ["b", "w"], TABLE))
        self.says(False, keeps_apart(BOOK, START, 0, ["b", "w"], ([], TABLE[1])))
        self.says(False, keeps_apart(BOOK, START, 0, ["known"], (all_ties(BOOK), [[["a", "b", "known", "w"]]] * 3)))
        self.says(True, keeps_apart(BARE, [[]], 0, ["known"], group_table(BARE, [[]])))

    def test_just_one(self):
        said = {True: 0, False: 0}
        for count in range(90):
            dice, book, start = some_small(count)
            table = group_table(book, start)
            for root in plain_roots(book, start):
                bunches = plain_bunches(book, start, root)
                for lot in all_lots(plain_states(book)):
                    if lot:
                        kept = not any([lot <= bunch for bunch in bunches])
                        self.says(kept, keeps_apart(book, start, root, dice.mixed(lot), table))
                        self.assertEqual(together(book, start, root, dice.mixed(lot)) is None, kept)
                        said[kept] += 1
        self.assertGreater(min(said.values()), 300)

    def test_reach_is_in_one_group(self):
        for count in range(60):
            _, book, start = some_small(count)
            for asked in all_asked(book, start, 3):
                self.assertTrue(any([plain_reach(book, start, asked) <= set(group) for group in groups(book, start, asked[0])]))
