"""9.1 to 9.4, 9.7: what logs bring, what closed machines never lead to, told or never, judged."""

from tests.plain import plain_log
from tests.plainrules import all_asked, all_pairs, all_ties, plain_closed, plain_leads, plain_states
from tests.plainwords import all_logs, plain_brings, plain_least, plain_reach
from tests.samples import all_permits, some_book, some_case, some_led, some_log, some_start
from tests.tools import Dice, Hostile, WrapCase, as_lists, as_tuples, empties, odd_things
from underwraps.books import Book
from underwraps.logs import log_fault
from underwraps.machines import grown, least_machine
from underwraps.verdicts import is_bringing, is_never, judged, verdict

BOOK = Book(["a", "d"], [], [("make", "a"), ("make", "d"), ("open", "a"), ("wrap", "a", "d")])
MORE = Book(["a", "d"], [], BOOK.all_permits() + [("unwrap", "a", "a")])
M, O = [(("made", number), ()) for number in range(4)], (("own", 0), ())
C = ("under", M[0], M[1])
TOLD = [("make", "a"), ("make", "d"), ("wrap", 0, 1), ("open", 0, C)]
LEAST = ([("d", "known")], [("a", "a"), ("d", "d"), ("d", "known"), ("known", "d"), ("known", "known")])
BARE = Book([], [], [])


class TestExample(WrapCase):
    def test_9_7(self):
        self.assertEqual(verdict(BOOK, [], ("d", []), "known")[0], "told")
        self.says(True, is_bringing(BOOK, [], ("d", []), "known", TOLD))
        self.assertEqual(judged(BOOK, [], ("d", []), "known", ("told", TOLD)), "told")
        self.assertEqual(verdict(BOOK, [], ("a", []), "known"), ("never", LEAST))
        self.assertEqual(verdict(BOOK, [], ("known", []), "a"), ("never", LEAST))
        own = TOLD + [("unwrap", 0, C, "a"), ("unwrap", 2, ("under", M[1], O), "a")]
        self.says(True, is_bringing(MORE, [], ("known", []), "a", own))
        self.says(False, is_bringing(MORE, [], ("known", []), "a", own[:-1]))
        word, log = verdict(MORE, [], ("known", []), "a")
        self.assertEqual(word, "told")
        self.says(True, is_bringing(MORE, [], ("known", []), "a", log))


class TestBringing(WrapCase):
    def test_each_kind_of_root(self):
        book = Book(["a", "b"], ["x"], [
            ("make", "a"), ("make", "b"), ("bring", "a"), ("copy", "a", "b"), ("derive", "a", "x", "b"), ("show", "b"),
        ])
        start, x = [["a"], ["b"], []], ("x",)
        for log, brought in [
            ([], [(0, (), "a"), (1, (), "b")]),
            ([("show", 1)], [(0, (), "a"), (1, (), "b"), (1, (), "known"), (1, x, "known")]),
            ([("derive", 0, "x", "b"), ("show", 2)], [
                (0, (), "a"), (0, x, "b"), (0, x, "known"), (1, (), "b"),
            ]),
            ([("make", "b"), ("make", "a"), ("copy", 3, "b"), ("show", 4)], [
                (0, (), "a"), (1, (), "b"), ("a", (), "a"), ("a", (), "b"), ("a", (), "known"), ("a", x, "known"), ("b", (), "b"),
            ]),
            ([("bring", "a", (("own", 7), ())), ("derive", 2, "x", "b")], [
                (0, (), "a"), (1, (), "b"), ("known", (), "a"), ("known", x, "b"),
            ]),
        ]:
            own = [("known", word, "known") for word in [(), x, ("x", "x")]]
            for asked in all_asked(book, start, 2):
                for state in plain_states(book):
                    wanted = (*asked, state) in brought + own or (asked[1] == ("x", "x") and (asked[0], x, "known") in brought
                                                                  and state == "known")
                    self.says(wanted, is_bringing(book, start, asked, state, log))
                    self.says(wanted, is_bringing(thing=as_lists(log), state=state, asked=as_lists(asked), start=start, book=book))

    def test_no_log(self):
        for thing in odd_things() + [TOLD + [None], TOLD[1:], TOLD[:3] + [("open", 1, C)], {0: TOLD}, "", (Hostile(),)]:
            self.says(False, is_bringing(BOOK, [], ("known", ()), "known", thing) and not isinstance(thing, list))
        for thing in ([], ()):
            self.says(True, is_bringing(BOOK, [], ("known", ()), "known", thing))
            self.says(False, is_bringing(BOOK, [], ("d", ()), "d", thing))
            self.says(True, is_bringing(BARE, [[]], ("known", ()), "known", thing))
            self.says(False, is_bringing(BARE, [[]], (0, ()), "known", thing))

    def test_as_a_plain_reading(self):
        said = {True: 0, False: 0}
        for count in range(150):
            book, start, log = some_case(Dice(count), 12)
            permits = book.all_permits()
            for asked in all_asked(book, start, 1):
                for state in plain_states(book):
                    wanted = plain_brings(permits, start, log, asked, state)
                    self.says(wanted, is_bringing(book, start, asked, state, log))
                    said[wanted] += 1
        self.assertGreater(min(said.values()), 1000)


class TestNever(WrapCase):
    def test_ordinary(self):
        for machine in (LEAST, as_lists(LEAST), as_tuples(LEAST), (LEAST[0], LEAST[1][::-1])):
            self.says(True, is_never(BOOK, [], ("a", ()), "known", machine))
            self.says(True, is_never(thing=machine, state="a", asked=["known", []], start=(), book=BOOK))
            self.says(False, is_never(BOOK, [], ("d", ()), "known", machine))
            self.says(False, is_never(BOOK, [], ("a", ()), "a", machine))
            self.says(False, is_never(BOOK, [], ("known", ()), "known", machine))
        self.says(False, is_never(BOOK, [], ("d", ()), "known", ([], LEAST[1])))
        self.says(False, is_never(BOOK, [], ("a", ()), "known", (LEAST[0], LEAST[1][1:])))
        every = (all_ties(BOOK), all_pairs(BOOK))
        self.says(False, is_never(BOOK, [], ("a", ()), "known", every))
        wide = (all_ties(BOOK)[2:], all_pairs(BOOK))
        self.assertEqual(grown(BOOK, [], wide), wide)
        self.says(True, is_never(Book(["a", "d"], [], []), [[]], (0, ()), "a", wide))

    def test_any_closed_machine(self):
        said = {True: 0, False: 0}
        for count in range(80):
            dice = Dice(count)
            book, start = some_book(dice, ["a", "b"][:dice.number(3)], ["x"][:dice.number(2)], 3), some_start(dice, ["a"], 2)
            if not book.all_roles():
                start = [[]] * dice.number(2)
            for _ in range(5):
                ties = [tie for tie in all_ties(book) if dice.number(3) == 0]
                machine = grown(book, start, (ties, [])) if dice.number(3) else (ties, dice.part(all_pairs(book)))
                for asked in all_asked(book, start, 1):
                    for state in plain_states(book):
                        wanted = plain_closed(book, start, *machine) and state not in plain_leads(book, start, machine[0], asked)
                        self.says(wanted, is_never(book, start, asked, state, machine))
                        self.assertEqual(judged(book, start, asked, state, ["never", machine]), "never" if wanted else None)
                        said[wanted] += 1
        self.assertGreater(min(said.values()), 200)


class TestJudged(WrapCase):
    def test_ordinary(self):
        for thing in [("told", TOLD), ["told", TOLD + [("make", "a")]], as_lists(("told", TOLD)), as_tuples(("told", TOLD))]:
            self.assertEqual(judged(BOOK, [], ("d", ()), "known", thing), "told")
            self.assertIsNone(judged(BOOK, [], ("a", ()), "known", thing))
        for thing in [("never", LEAST), as_lists(("never", LEAST)), as_tuples(("never", LEAST))]:
            self.assertEqual(judged(thing=thing, state="known", asked=("a", ()), start=[], book=BOOK), "never")
            self.assertIsNone(judged(BOOK, [], ("d", ()), "known", thing))

    def test_anything_else(self):
        wrong = [
            ("told", LEAST), ("never", TOLD), ("told", TOLD, 0), ("told",), ("never",), TOLD, LEAST, ("tell", TOLD), ("", TOLD),
            (b"told", TOLD), {"told": TOLD}, "told", ("told", TOLD[1:]), ("told", None), ("never", None), ("told", Hostile()),
            ("never", Hostile()), (Hostile(), TOLD), (["told"], TOLD), (TOLD, "told"), ("never", LEAST[::-1]), ("told", "told"),
        ]
        for thing in odd_things() + empties() + wrong:
            for asked in (("a", ()), ("d", ())):
                self.assertIsNone(judged(BOOK, [], asked, "known", thing))


class TestVerdict(WrapCase):
    def test_edges(self):
        self.assertEqual(verdict(BARE, [], ("known", ()), "known"), ("told", []))
        self.assertEqual(verdict(BARE, [[]], (0, ()), "known"), ("never", ([], [("known", "known")])))
        self.assertEqual(verdict(state="a", asked=[0, []], start=(("a",),), book=Book(["a"], [], [])), ("told", []))
        self.assertEqual(verdict(Book(["a"], [], [("make", "a")]), [], ("a", ()), "a"), ("told", [("make", "a")]))
        self.assertEqual(verdict(Book([], ["x"], []), [], ("known", ("x",)), "known"), ("told", []))
        everything = Book(["a", "b"], ["x"], all_permits(["a", "b"], ["x"]))
        for asked in all_asked(everything, [[], ["a"], ["a", "b"]], 2):
            for state in plain_states(everything):
                word, paper = verdict(everything, [[], ["a"], ["a", "b"]], asked, state)
                self.assertEqual(word, "never" if asked[0] == 0 else "told")
                self.assertEqual(judged(everything, [[], ["a"], ["a", "b"]], asked, state, (word, paper)), word)
        nothing = Book(["a", "b"], ["x"], [])
        for asked in all_asked(nothing, [["a"]], 2):
            for state in ("a", "b", "known"):
                right = state == "known" if asked[0] == "known" else asked[1] == () and state == "a"
                self.assertEqual(verdict(nothing, [["a"]], asked, state)[0], "told" if right else "never")

    def test_just_one(self):
        words, longest = {"told": 0, "never": 0}, 0
        for count in range(140):
            _, book, start = some_led(count, 5)
            ties, pairs = [sorted(some) for some in plain_least(book, start)]
            states = plain_states(book)
            for asked in all_asked(book, start, 2):
                leads = plain_leads(book, start, ties, asked)
                for state in states:
                    word, paper = verdict(book, start, asked, state)
                    words[word] += 1
                    if state not in leads:
                        self.assertEqual((word, paper), ("never", (ties, pairs)))
                        self.says(True, is_never(book, start, asked, state, paper))
                        continue
                    self.assertEqual(word, "told")
                    self.assertTrue(plain_brings(book.all_permits(), start, paper, asked, state))
                    self.says(True, is_bringing(book, start, asked, state, paper))
                    self.says(False, is_never(book, start, asked, state, (ties, pairs)))
                    many = len(states)
                    self.assertLessEqual(len(paper), many ** 2 * (2 * many ** 2 + 1) + 2 * many * (len(asked[1]) + 1) + 1)
                    self.assertEqual(paper, verdict(book, start, asked, state)[1])
                    longest = max(longest, len(paper))
        self.assertGreater(min(words.values()), 500)
        self.assertGreater(longest, 9)

    def test_all_logs_of_a_few_calls(self):
        logs = brought = further = 0
        for count in range(110):
            dice = Dice(count)
            roles, labels = ["a", "b"][:1 + dice.number(2)], ["x"][:dice.number(2)]
            every = dice.mixed(all_permits(roles, labels))
            book, start = Book(roles, labels, every[:2 + dice.number(4)]), some_start(dice, roles, 2)
            questions = [(asked, state) for asked in all_asked(book, start, 1) for state in plain_states(book)]
            reached = {asked: plain_reach(book, start, asked) for asked, _ in questions}
            met = set()
            for log, _ in all_logs(book, start, 3):
                logs += 1
                self.assertIsNone(log_fault(book, start, log))
                for asked, state in questions:
                    if (asked, state) not in met and plain_brings(book.all_permits(), start, log, asked, state):
                        met.add((asked, state))
            for asked, state in questions:
                word, paper = verdict(book, start, asked, state)
                self.assertEqual(word, "told" if state in reached[asked] else "never")
                if (asked, state) in met:
                    self.assertEqual(word, "told")
                    brought += 1
                elif word == "told":
                    # What no log of so few calls brings asks for more of them.
                    self.assertGreater(len(paper), 3)
                    further += 1
        self.assertGreater(logs, 5000)
        self.assertGreater(brought, 300)
        self.assertGreater(further, 5)

    def test_no_log_brings_what_never_comes(self):
        looked = 0
        for count in range(200):
            dice = Dice(count)
            book, start, log = some_case(dice, 20)
            machine = least_machine(book, start)
            self.assertIsNone(plain_log(book.all_permits(), start, log)[2])
            for asked in all_asked(book, start, 1):
                for state in plain_states(book):
                    if is_never(book, start, asked, state, machine):
                        self.says(False, is_bringing(book, start, asked, state, log))
                        looked += 1
            self.says(True, is_bringing(book, start, ("known", ()), "known", some_log(dice, book, start, 4)))
        self.assertGreater(looked, 400)
