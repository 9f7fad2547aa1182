"""17: what one book lets and another one does not, paired rows, covers, partings, both together."""

from tests.plain import plain_log
from tests.plainrules import all_words, plain_closed, plain_leads
from tests.plainwords import keys_asked, plain_brings, plain_least
from tests.samples import all_permits, some_book, some_start, some_wraps
from tests.tools import Dice, Hostile, Odd, WrapCase, as_lists, as_tuples, empties, odd_things
from underwraps.books import Book, is_less
from underwraps.errors import BadBook, BadRoot, BadSecond, BadStart
from underwraps.machines import grown, least_machine
from underwraps.tables import least_table
from underwraps.twobooks import (
    both_books, compared, first_more, is_cover, is_parting, only_together, paired_rows, parting, parting_key,
)

START = [["a"], ["d"]]
DERIVES = Book(["a", "d"], ["x"], [("derive", "a", "x", "d"), ("show", "d")])
WRAPS = Book(["a", "d"], ["x"], [("wrap", "a", "d"), ("open", "a")])
COPIES, SHOWS = Book(["a", "d"], [], [("copy", "a", "d")]), Book(["a", "d"], [], [("show", "d")])
BARE = Book([], [], [])
WORD_FAULTS = [first_more, parting_key, compared, parting, only_together]


def makes(book):
    return [permit[1] for permit in book.all_permits() if permit[0] == "make"]


def two_roots(book, second, start):
    """Return the roots of 17.1, numbers ahead of texts."""
    return list(range(len(start))) + sorted({"known", *makes(book), *makes(second)})


def plain_let(book, start, every):
    """Return those of some asked keys that a book lets, by 17.1."""
    ties, _ = plain_least(book, start)
    there = [asked for asked in every if isinstance(asked[0], int) or asked[0] in ["known", *makes(book)]]
    return [asked for asked in there if "known" in plain_leads(book, start, ties, asked)]


def in_order(book, second, start, longest):
    """Return all asked keys of words so long, in the order of 17.1."""
    roots = two_roots(book, second, start)
    words = all_words(book.all_labels(), longest)
    return [(root, word) for many in range(longest + 1) for root in roots for word in words if len(word) == many]


def some_books(count, most=3):
    """Return (dice, book, second, start): two books with the same labels, one start of both."""
    dice = Dice(count)
    labels = ["x", "y"][:dice.number(3)]
    both = ["a", "b"][:dice.number(3)]
    roles = [sorted(both + dice.part(["c", "d"])[:1]) for _ in range(2)]
    maker = [some_book, some_wraps][count % 2]
    book, second = [maker(dice, some, labels, 2 + dice.number(most)) for some in roles]
    if count % 5 == 0 and roles[0]:
        # The second one is the first one with few changes.
        changes = dice.some(all_permits(roles[0], labels), 1 + dice.number(3))
        second = Book(roles[0], labels, sorted(set(book.all_permits()) ^ set(changes)))
    return dice, book, second, some_start(dice, [role for role in roles[0] if role in second.all_roles()], 2)


def some_words(count):
    """Return likewise two books by which words lead from each role to one other, and just one role comes out."""
    dice = Dice(count)
    roles, labels = ["a", "b", "c", "d"], ["x", "y"][:1 + dice.number(2)]
    steps = {(role, label): dice.one(roles) for role in roles for label in labels}
    made, books = dice.part([("make", "b")]), []
    for changes in (0, dice.number(4)):
        # Most steps are the same ones: words part the books that lead far.
        changed = steps | {dice.one(sorted(steps)): dice.one(roles) for _ in range(changes)}
        derives = [("derive", role, label, later) for (role, label), later in changed.items()]
        books.append(Book(roles, labels, sorted(derives + made + [("show", "d")])))
    return dice, *books, [["a"]] + some_start(dice, roles, 1)


class TestExample(WrapCase):
    def test_17_6(self):
        self.assertEqual(first_more(DERIVES, WRAPS, START), (0, ("x",)))
        self.assertIsNone(first_more(WRAPS, DERIVES, START))
        self.assertEqual(compared(DERIVES, WRAPS, START), "more")
        self.assertEqual(compared(WRAPS, DERIVES, START), "less")
        self.assertEqual(parting_key(DERIVES, WRAPS, START), (0, ("x",)))
        self.assertEqual(paired_rows(DERIVES, WRAPS, START, 0), [(0, 0), (1, 0)])
        self.assertEqual(paired_rows(DERIVES, WRAPS, START, 1), [(0, 0)])
        for book in (COPIES, SHOWS):
            self.assertEqual(compared(book, BARE, []), "alike")
            self.assertEqual(compared(book, Book(["a"], [], []), [["a"]]), "alike")
        self.assertEqual(only_together(COPIES, SHOWS, [["a"]]), (0, ()))
        asked, log, machine = parting(DERIVES, WRAPS, START)
        self.assertEqual((asked, machine), ((0, ("x",)), least_machine(WRAPS, START)))
        self.says(True, plain_brings(DERIVES.all_permits(), START, log, asked, "known"))


class TestForms(WrapCase):
    def test_lists_and_names(self):
        for shape in (as_lists, as_tuples):
            start = shape(START)
            self.assertEqual(repr(first_more(start=start, second=WRAPS, book=DERIVES)), "(0, ('x',))")
            self.assertEqual(repr(parting_key(start=start, second=WRAPS, book=DERIVES)), "(0, ('x',))")
            self.assertEqual(compared(start=start, second=WRAPS, book=DERIVES), "more")
            self.assertEqual(repr(paired_rows(root=0, start=start, second=WRAPS, book=DERIVES)), "[(0, 0), (1, 0)]")
            self.assertEqual(repr(only_together(start=shape([["a"]]), second=SHOWS, book=COPIES)), "(0, ())")
            told = parting(start=start, second=WRAPS, book=DERIVES)
            self.assertEqual(repr(told), repr(parting(DERIVES, WRAPS, START)))
            self.assertEqual((type(told), type(told[1]), type(told[1][0])), (tuple, list, tuple))
            self.says(True, is_parting(thing=shape(told), start=start, second=WRAPS, book=DERIVES))
            cover = [paired_rows(WRAPS, DERIVES, START, root) for root in (0, 1, "known")]
            self.says(True, is_cover(thing=shape(cover), start=start, second=DERIVES, book=WRAPS))
        self.assertEqual(both_books(second=SHOWS, book=COPIES), Book(["a", "d"], [], [("copy", "a", "d"), ("show", "d")]))

    def test_edges(self):
        self.assertIsNone(first_more(BARE, BARE, []))
        self.assertIsNone(parting(BARE, BARE, [[]]))
        self.assertEqual(compared(BARE, BARE, [[], []]), "alike")
        self.assertEqual(paired_rows(BARE, BARE, [[]], 0), [(0, 0)])
        self.assertEqual(paired_rows(BARE, BARE, [[]], "known"), [(0, 0)])
        self.says(True, is_cover(BARE, BARE, [], [[(0, 0)]]))
        self.says(True, is_cover(BARE, BARE, [[]], [[(0, 0)], [(0, 0)] * 2]))
        self.assertEqual(both_books(BARE, BARE), BARE)
        one, other = Book(["a"], ["x"], [("make", "a"), ("show", "a")]), Book(["b"], ["x"], [("make", "b"), ("bring", "b")])
        self.assertEqual(first_more(one, other, []), ("a", ()))
        self.assertEqual(compared(one, other, [[]]), "more")
        self.assertEqual(paired_rows(one, other, [], "b"), [(0, 0)])
        self.assertEqual(paired_rows(one, other, [], "a"), [(0, 0)])
        self.assertEqual(paired_rows(other, one, [], "a"), [(0, 0)])
        told = parting(one, other, [])
        self.assertEqual(told, (("a", ()), [("make", "a"), ("show", 0)], least_machine(other, [])))
        self.says(True, is_parting(one, other, [], told))
        self.assertEqual(both_books(one, other).all_roles(), ["a", "b"])
        twice = Book(["a", "b"], ["x"], [("make", "b"), ("show", "b")])
        self.assertEqual(compared(one, twice, []), "apart")
        self.assertEqual(parting_key(one, twice, []), ("a", ()))
        self.assertEqual(parting_key(twice, one, []), ("a", ()))
        # A role that one of them alone makes, another one that it has and does not make.
        made = Book(["a"], ["x"], [("make", "a")])
        derived = Book(["a"], ["x"], [("derive", "a", "x", "a"), ("show", "a")])
        self.assertEqual(only_together(made, derived, []), ("a", ()))
        self.assertEqual(compared(made, derived, []), "alike")
        self.assertEqual(compared(derived, made, [["a"]]), "more")

    def test_numbers_ahead_of_texts(self):
        book = Book(["a"], ["x", "y"], [("make", "a"), ("derive", "a", "y", "a"), ("derive", "a", "x", "a")])
        shown = Book(["a", "b"], ["x", "y"], [("derive", "a", "x", "b"), ("derive", "b", "y", "a"), ("show", "b"), ("make", "a")])
        self.assertEqual(first_more(shown, book, [[], ["a"]]), (1, ("x",)))
        self.assertEqual(first_more(shown, book, [[]]), ("a", ("x",)))
        self.assertIsNone(first_more(book, shown, [["a"]]))

    def test_bad_books(self):
        for thing in odd_things() + empties():
            for call in WORD_FAULTS + [is_cover, is_parting]:
                more = [Hostile()] * (call in (is_cover, is_parting))
                self.raises(BadBook, thing, call, thing, Hostile(), Hostile(), *more)
                self.raises(BadSecond, thing, call, DERIVES, thing, Hostile(), *more)
            self.raises(BadBook, thing, both_books, thing, Hostile())
            self.raises(BadSecond, thing, both_books, DERIVES, thing)
            self.raises(BadSecond, thing, paired_rows, DERIVES, thing, Hostile(), Hostile())
        for other in (COPIES, Book(["a", "d"], ["y"], []), Book(["a", "d"], ["x", "y"], [])):
            self.raises(BadSecond, other, both_books, DERIVES, other)
            self.raises(BadSecond, other, compared, DERIVES, other, Hostile())

    def test_bad_start(self):
        second = Book(["a", "b"], ["x"], [])
        for thing in [None, "ab", "", 0, True, {}, {0: ["a"]}, {("a",)}, Odd(), Hostile(), iter(START)]:
            self.raises(BadStart, 0, compared, DERIVES, second, thing)
        for thing in odd_things() + [["d"], ["b"], ["a", "d"], ["a", "b"], ["a", "a"], "a", [None], ["known"], [Hostile()]]:
            if thing not in ([], ()) if isinstance(thing, (list, tuple)) and len(thing) == 0 else True:
                for call in WORD_FAULTS:
                    self.raises(BadStart, 2, call, DERIVES, second, [["a"], [], thing, None])
                self.raises(BadStart, 2, is_cover, DERIVES, second, [["a"], [], thing, None], Hostile())
        self.assertEqual(compared(DERIVES, second, [["a"], [], ("a",)]), "more")

    def test_bad_root(self):
        second = Book(["a", "b"], ["x"], [("make", "b")])
        for thing in odd_things()[:3] + [1, 0.0, "0", "a", "d", "q", "", (0,), [0], Odd(), Hostile(), -1, None, True, False]:
            self.raises(BadRoot, thing, paired_rows, DERIVES, second, [["a"]], thing)
        self.assertEqual(paired_rows(DERIVES, second, [["a"]], "b"), [(0, 0)])


class TestByAllAskedKeys(WrapCase):
    def looked_at(self, book, second, start, longest):
        """Look at first_more, parting_key, compared, only_together by going through all asked keys of few labels."""
        every = in_order(book, second, start, longest)
        let = [plain_let(each, start, every) for each in (book, second, both_books(book, second))]
        rows = [(asked, *[asked in some for some in let]) for asked in every]
        more = [asked for asked, has, lacks, _ in rows if has and not lacks]
        less = [asked for asked, lacks, has, _ in rows if has and not lacks]
        parted = [asked for asked, has, lacks, _ in rows if has != lacks]
        together = [asked for asked, has, lacks, all_has in rows if all_has and not has and not lacks]
        answers = [
            (first_more(book, second, start), more), (first_more(second, book, start), less),
            (parting_key(book, second, start), parted), (only_together(book, second, start), together),
        ]
        for told, found in answers:
            # Longer words are told only where no shorter one does.
            far = told is not None and len(told[1]) > longest
            self.assertEqual(found if far else told, [] if far else (found + [None])[0])
        self.assertTrue(all([all_has for _, has, lacks, all_has in rows if has or lacks]))
        more, less = [told is not None for told, _ in answers[:2]]
        word = "apart" if more and less else "more" if more else "less" if less else "alike"
        self.assertEqual(compared(book, second, start), word)
        if is_less(book, second):
            self.assertIn(word, ("less", "alike"))
            self.assertIsNone(only_together(book, second, start))
        self.assertEqual(compared(book, book, start), "alike")
        self.assertIsNone(only_together(book, book, start))
        return word, len(parted[0][1]) if parted else 0, len(together[0][1]) if together else None

    def test_17_1_and_17_4(self):
        words, longest, together = {}, {}, {}
        for count in range(360):
            _, book, second, start = (some_words if count % 3 == 0 else some_books)(count)
            word, many, both = self.looked_at(book, second, start, 4)
            words[word] = words.get(word, 0) + 1
            longest[many] = longest.get(many, 0) + 1
            together[both] = together.get(both, 0) + 1
        for word in ("alike", "less", "more", "apart"):
            self.assertGreater(words[word], 8)
        self.assertGreater(sum([longest[many] for many in longest if many > 1]), 12)
        self.assertGreater(together[0] + together[1], 15)

    def test_17_5(self):
        chains = 0
        for count in range(220):
            dice, book, second, start = (some_words if count % 2 else some_books)(count)
            key = parting_key(book, second, start)
            if key is not None:
                sizes = [len(least_table(each, start, key[0])) if isinstance(key[0], int) or key[0] in makes(each) else 1 for each in (book, second)]
                self.assertLess(len(key[1]), sum(sizes))
            # Roles that nothing names change nothing.
            wide = Book(book.all_roles() + ["zz"], book.all_labels(), book.all_permits())
            self.assertEqual(compared(wide, second, start), compared(book, second, start))
            self.assertEqual(first_more(second, wide, start), first_more(second, book, start))
            third = Book(second.all_roles(), second.all_labels(), dice.part(second.all_permits()))
            if first_more(book, second, start) is None and first_more(second, third, start) is None:
                self.assertIsNone(first_more(book, third, start))
                chains += 1
            less = Book(book.all_roles(), book.all_labels(), dice.part(book.all_permits()))
            self.assertIn(compared(less, book, start), ("less", "alike"))
            self.assertIsNone(only_together(less, book, start))
        self.assertGreater(chains, 20)


class TestCovers(WrapCase):
    def plain_tables(self, book, second, start, root):
        return [
            least_table(each, start, root) if isinstance(root, int) or root == "known" or root in makes(each)
            else [(False, (0,) * len(book.all_labels()))] for each in (book, second)
        ]

    def plain_pairs(self, book, second, start, root):
        """Return paired_rows by all words of as many labels as there are pairs of rows, and no fewer steps."""
        one, other = self.plain_tables(book, second, start, root)
        pairs = {(0, 0)}
        while True:
            more = {(one[i][1][at], other[j][1][at]) for i, j in pairs for at in range(len(book.all_labels()))} - pairs
            if not more:
                return sorted(pairs)
            pairs |= more

    def test_17_2(self):
        said, wide = {True: 0, False: 0}, 0
        for count in range(300):
            dice, book, second, start = (some_words if count % 2 else some_books)(count)
            cover, shows = [], True
            for root in two_roots(book, second, start):
                pairs = self.plain_pairs(book, second, start, root)
                self.assertEqual(paired_rows(book, second, start, root), pairs)
                one, other = self.plain_tables(book, second, start, root)
                more = [(i, j) for i, j in pairs if one[i][0] and not other[j][0]]
                let = [asked for asked in in_order(book, second, start, 3) if asked[0] == root]
                one_lets, other_lets = plain_let(book, start, let), plain_let(second, start, let)
                if [asked for asked in one_lets if asked not in other_lets]:
                    self.assertTrue(more)
                if one == other:
                    self.assertEqual(one_lets, other_lets)
                shows = shows and not more
                cover.append(pairs)
                wide += len(pairs) > 3
            self.says(shows, is_cover(book, second, start, cover))
            # Just one of both: a cover, or an asked key.
            self.assertEqual(shows, first_more(book, second, start) is None)
            said[shows] += 1
            mixed = [dice.mixed(pairs + pairs[:1]) for pairs in cover]
            self.says(shows, is_cover(book, second, start, as_lists(mixed)))
            self.assertFalse(is_cover(book, second, start, cover[1:]) or is_cover(book, second, start, cover + [[(0, 0)]]))
            for at, pairs in enumerate(cover):
                less = dice.one(pairs)
                self.says(False, is_cover(book, second, start, [*cover[:at], [pair for pair in pairs if pair != less], *cover[at + 1:]]))
        self.assertGreater(min(said.values()), 30)
        self.assertGreater(wide, 30)

    def test_more_pairs_than_there_need_to_be(self):
        book = Book(["a", "b"], ["x"], [("derive", "a", "x", "b"), ("show", "b")])
        every = [(i, j) for i in range(2) for j in range(2)]
        self.assertEqual(least_table(book, [["a"]], 0), [(False, (1,)), (True, (1,))])
        own = [(0, 0)]
        for pairs, wanted in [
            ([(0, 0), (1, 1)], True), ([(0, 0), (1, 1), (0, 1)], True), (every, False), ([(0, 0), (0, 1)], False), ([(1, 1)], False),
            ([(0, 0), (1, 1), (1, 1), (0, 0)], True), ([], False), ([(0, 0)], False), ([(0, 0), (1, 2)], False), ([(0, 0), (2, 1), (1, 1)], False),
        ]:
            self.says(wanted, is_cover(book, book, [["a"]], [pairs, own]))

    def test_any_object(self):
        good = [paired_rows(WRAPS, DERIVES, START, root) for root in (0, 1, "known")]
        self.says(True, is_cover(WRAPS, DERIVES, START, good))
        for thing in odd_things() + empties() + [
            None, "", {0: good[0], 1: good[1], 2: good[2]}, iter(good), [good[0], good[1], None], [good[0], good[1], {(0, 0)}], [good[0], good[1], "00"],
            [good[0], good[1], [(0, 0, 0)]], [good[0], good[1], [(0, 0), (0, 0, 0)]], [good[0], good[1], [(0, 0), (0,)]], [good[0], good[1], [(0, True)]], [good[0], good[1], [(0, False)]], [good[0], good[1], [(0, 0.0)]],
            [good[0], good[1], [(0, -1)]], [good[0], good[1], [("0", 0)]], [good[0], good[1], ["00"]], [good[0], good[1], [(0, Hostile())]],
            [good[0], good[1], [Hostile()]], [good[0], good[1], Hostile()], [Hostile()] * 3, [good[0], good[1], [{0: 0, 1: 0}]],
        ]:
            self.says(False, is_cover(WRAPS, DERIVES, START, thing))


class TestPartings(WrapCase):
    def test_17_3(self):
        told = 0
        for count in range(200):
            dice, book, second, start = (some_words if count % 3 == 0 else some_books)(count)
            found = parting(book, second, start)
            if found is None:
                self.assertIsNone(first_more(book, second, start))
                continue
            told += 1
            asked, log, machine = found
            self.assertEqual(asked, first_more(book, second, start))
            self.says(True, plain_brings(book.all_permits(), start, log, asked, "known"))
            self.assertEqual(machine, least_machine(second, start))
            self.assertTrue(plain_closed(second, start, *machine))
            for other in (found, as_lists(found), as_tuples(found), (asked, log, (machine[0][::-1], machine[1][::-1]))):
                self.says(True, is_parting(book, second, start, other))
            self.says(False, is_parting(second, book, start, found))
            every = grown(second, start, ([(p, "known") for p in second.all_roles()], []))
            there = isinstance(asked[0], int) or asked[0] in makes(second)
            kept = not there or "known" not in plain_leads(second, start, every[0], asked)
            self.says(kept, is_parting(book, second, start, (asked, log, every)))
            self.says(False, is_parting(book, second, start, (asked, log[:-1], machine)) and plain_brings(
                book.all_permits(), start, log[:-1], asked, "known") is False)
            other = dice.one(in_order(book, second, start, 1))
            wanted = plain_brings(book.all_permits(), start, log, other, "known") and not plain_let(second, start, [other])
            self.says(bool(wanted and keys_asked(log, other)), is_parting(book, second, start, (other, log, machine)))
        self.assertGreater(told, 35)

    def test_small_ones(self):
        one, other = Book(["a"], [], [("make", "a"), ("show", "a")]), Book(["b"], [], [("make", "b"), ("show", "b")])
        log, machine = [("make", "a"), ("show", 0)], least_machine(other, [])
        house, _, fault = plain_log(one.all_permits(), [], log)
        self.assertEqual((house.out, fault), ([(("made", 0), ())], None))
        self.says(True, is_parting(one, other, [], (("a", ()), log, machine)))
        # The other book has no such root: what is closed for it is enough, whatever it leads where.
        self.says(True, is_parting(one, other, [], (("a", ()), log, grown(other, [], ([("known", "b")], [])))))
        for asked, calls, paper in [
            (("a", ()), log[:1], machine), (("a", ()), log, ([], [])), (("a", ()), log, least_machine(one, [])), (("b", ()), log, machine),
            (("known", ()), log, machine), (("c", ()), log, machine), (("a", ("x",)), log, machine), (("a", ()), [], machine), (("a", ()), log, None),
            (("a", ()), None, machine), (None, log, machine), (Hostile(), log, machine), (("a", ()), Hostile(), machine), (("a", ()), log, Hostile()),
            ((0, ()), log, machine), (("a", ()), log + [("show", 1)], machine),
        ]:
            self.says(False, is_parting(one, other, [], (asked, calls, paper)))
        self.says(False, is_parting(one, one, [], (("a", ()), log, least_machine(one, []))))

    def test_any_object(self):
        good = parting(DERIVES, WRAPS, START)
        for thing in odd_things() + empties() + [good[:2], good + (0,), {0: good}, iter(good), "abc", [Hostile()] * 3]:
            self.says(False, is_parting(DERIVES, WRAPS, START, thing))
