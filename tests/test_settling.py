"""9.5, 9.6: all questions at once, reach, what may be brought along."""

from tests.plainrules import all_asked, plain_leads, plain_states
from tests.plainwords import plain_brings, plain_least, plain_reach
from tests.samples import all_permits, some_case, some_led, some_start, some_wraps
from tests.tools import Dice, WrapCase, as_lists
from underwraps.books import Book
from underwraps.houses import House
from underwraps.logs import log_fault, played
from underwraps.settling import brought_along, reach, settled
from underwraps.verdicts import is_bringing, is_never, verdict

BOOK = Book(["a", "d"], [], [("make", "a"), ("make", "d"), ("open", "a"), ("wrap", "a", "d")])
MORE = Book(["a", "d"], [], BOOK.all_permits() + [("unwrap", "a", "a")])
THREE = [(("d", []), "known"), (("a", []), "known"), (("known", []), "a")]
BARE = Book([], [], [])


class TestExample(WrapCase):
    def test_9_7(self):
        for book, told in [(BOOK, [True, False, False]), (MORE, [True, False, True])]:
            log, machine = settled(book, [], THREE)
            for (asked, state), right in zip(THREE, told):
                self.says(right, is_bringing(book, [], asked, state, log))
                self.says(not right, is_never(book, [], asked, state, machine))


class TestSettled(WrapCase):
    def test_none(self):
        self.assertEqual(settled(BARE, [], []), ([], ([], [("known", "known")])))
        self.assertEqual(settled(BOOK, [], ())[0], [])
        self.assertEqual(settled(BOOK, [], THREE[1:])[0], [])
        self.assertEqual(settled(questions=THREE[1:], start=(), book=BOOK)[1], verdict(BOOK, [], ("a", ()), "known")[1])
        self.assertEqual(settled(Book(["a"], ["x"], []), [["a"], []], [((1, ()), "a"), ((0, ("x",)), "a")])[0], [])

    def test_like_questions(self):
        once = settled(MORE, [], THREE)
        self.assertEqual(settled(MORE, [], [thing for question in THREE for thing in (question, as_lists(question))]), once)
        self.assertEqual(settled(MORE, [], THREE * 40), once)

    def test_just_one_of_both(self):
        kinds = {"told": 0, "never": 0, "all": 0, "none": 0}
        for count in range(140):
            dice, book, start = some_led(count, 5)
            ties, pairs = [sorted(some) for some in plain_least(book, start)]
            every = [(asked, state) for asked in all_asked(book, start, 2) for state in plain_states(book)]
            questions = dice.some(every, dice.number(9))
            log, machine = settled(book, start, questions)
            self.assertEqual(machine, (ties, pairs))
            self.assertIsNone(log_fault(book, start, log))
            led = [state in plain_leads(book, start, ties, asked) for asked, state in questions]
            for (asked, state), right in zip(questions, led):
                self.assertEqual(plain_brings(book.all_permits(), start, log, asked, state), right)
                self.says(not right, is_never(book, start, asked, state, machine))
                kinds["told" if right else "never"] += 1
            if not any(led):
                self.assertEqual(log, [])
            kinds["all" if all(led) else "none" if not any(led) else "told"] += 1
            self.assertEqual(settled(book, start, questions), (log, machine))
        self.assertGreater(min(kinds.values()), 10)

    def test_all_there_are(self):
        book, start = Book(["a", "b"], ["x"], all_permits(["a", "b"], ["x"])), [["a"], ["b"], []]
        questions = [(asked, state) for asked in all_asked(book, start, 2) for state in plain_states(book)]
        log, machine = settled(book, start, questions)
        for asked, state in questions:
            self.says(asked[0] != 2, is_bringing(book, start, asked, state, log))
            self.says(asked[0] == 2, is_never(book, start, asked, state, machine))


class TestReach(WrapCase):
    def test_ordinary(self):
        self.assertEqual(reach(BOOK, [], ("d", ())), ["d", "known"])
        self.assertEqual(reach(BOOK, [], ("a", [])), ["a"])
        self.assertEqual(reach(asked=("known", ()), start=(), book=MORE), ["a", "known"])
        self.assertEqual(reach(BARE, [[]], (0, ())), [])
        self.assertEqual(reach(Book(["a"], ["x"], [("derive", "a", "x", "a")]), [["a"]], (0, ("x",) * 30)), ["a"])

    def test_as_a_plain_reading(self):
        for count in range(100):
            dice = Dice(count)
            roles = ["a", "b", "c"][:dice.number(4)]
            book, start = some_wraps(dice, roles, ["x"][:dice.number(2)], 2 + dice.number(3)), some_start(dice, roles, 2)
            for asked in all_asked(book, start, 2):
                told = reach(book, start, asked)
                self.assertEqual(told, sorted(plain_reach(book, start, asked)))
                self.assertEqual(told, [state for state in plain_states(book) if verdict(book, start, asked, state)[0] == "told"])


class TestBroughtAlong(WrapCase):
    def test_ordinary(self):
        self.assertEqual(brought_along(BOOK, []), [])
        self.assertEqual(brought_along(start=(), book=MORE), ["a"])
        self.assertEqual(brought_along(BARE, []), [])
        self.assertEqual(brought_along(Book(["a", "b"], [], [("bring", "b"), ("copy", "b", "a")]), [[]]), ["a", "b"])
        self.assertEqual(brought_along(Book(["a", "b"], ["x"], [("bring", "b"), ("derive", "b", "x", "a")]), []), ["b"])

    def test_each_known_key(self):
        some = none = 0
        for count in range(160):
            book, start, log = some_case(Dice(count), 14)
            brought = brought_along(book, start)
            for asked in all_asked(book, start, 1):
                led = reach(book, start, asked)
                if "known" in led:
                    self.assertLessEqual(set(brought), set(led))
                    some += 1
            own = [role for key, role in played(book, start, log).handles() if key[0][0] == "own"]
            self.assertLessEqual({role for role in own}, {role for word in [(), ("x",), ("y",), ("x", "x")] for role in reach(
                book, start, ("known", tuple([label for label in word if label in book.all_labels()])))})
            if not brought:
                self.assertEqual(own, [])
                none += 1
        self.assertGreater(some, 200)
        self.assertGreater(none, 20)

    def test_a_house_of_none(self):
        book = Book(["a"], [], [("seal", "a"), ("open", "a"), ("wrap", "a", "a")])
        self.assertEqual(brought_along(book, [["a"]]), [])
        house = House(book, [["a"]])
        house.call(("seal", 0, (("own", 0), ())))
        self.assertEqual(house.handles(), [((("given", 0), ()), "a")])
