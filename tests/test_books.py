"""3: permits, books, starts, less and otherwise called."""

from tests.samples import all_permits
from tests.tools import Dice, Hostile, Odd, WrapCase, as_lists, as_tuples, empties, odd_things
from underwraps.books import Book, called, is_less, is_permit, is_start, start_called, used_roles, without
from underwraps.errors import BadBook, BadLabels, BadNames, BadOther, BadPermits, BadRoles, BadStart

ROLES = ["data", "kek"]
PERMITS = [("make", "data"), ("wrap", "kek", "data"), ("unwrap", "kek", "data"), ("open", "data")]
NO_NAMES = ["", "A", "1a", "a_b", "a b", "abcdefghi", "\u00e9", "a\n", b"a", 1, None, True, ["a"], Odd(), Hostile()]


def example():
    return Book(ROLES, [], PERMITS)


def labelled():
    return Book(["a", "b"], ["x", "y"], [("derive", "a", "x", "b"), ("show", "b"), ("copy", "b", "a")])


class TestExample(WrapCase):
    def test_3_5(self):
        book = Book(["data", "kek"], [], [
            ("make", "data"), ("wrap", "kek", "data"), ("unwrap", "kek", "data"), ("open", "data"),
        ])
        self.says(True, is_start(book, [["kek"], ["data"]]))
        less = without(book, [("open", "data")])
        self.assertEqual(less.all_permits(), [("make", "data"), ("unwrap", "kek", "data"), ("wrap", "kek", "data")])
        self.assertEqual(used_roles(book), ["data", "kek"])
        self.assertEqual(used_roles(less), ["data", "kek"])


class TestPermits(WrapCase):
    def test_all_nine(self):
        for permit in all_permits(["a", "b"], ["x", "y"]):
            self.says(True, is_permit(["b", "a"], ["x", "y"], permit))
            self.says(True, is_permit(("a", "b"), ("y", "x"), list(permit)))

    def test_wrong_ones(self):
        for thing in odd_things() + empties() + [
            ("make",), ("make", "c"), ("make", "x"), ("make", "a", "a"), ("copy", "a"), ("copy", "a", "known"),
            ("derive", "a", "b", "a"), ("derive", "a", "x"), ("derive", "a", "x", "x"), ("lend", "a"), "make a",
            ("make", ["a"]), (("make", "a"),), ("Make", "a"), ("make", "known"), {"make": "a"}, ("", "a"),
        ]:
            self.says(False, is_permit(["a", "b"], ["x"], thing))
            self.says(False, is_permit([], [], thing))

    def test_alike_roles_and_labels(self):
        self.says(True, is_permit(["make", "x"], ["x", "known"], ("derive", "x", "x", "make")))
        self.says(True, is_permit(["make"], ["known"], ("derive", "make", "known", "make")))
        self.says(False, is_permit(["make"], ["known"], ("derive", "make", "known", "known")))

    def test_errors_in_order(self):
        for roles in ["ab", None, {"a"}, {"a": 1}, ["a", "a"], ["known"], ["a", "known"], 1, [["a"]], Hostile()]:
            self.raises(BadRoles, roles, is_permit, roles, "x", None)
        for name in NO_NAMES:
            roles = ["a", name]
            self.raises(BadRoles, roles, is_permit, roles, None, None)
            self.raises(BadLabels, roles, is_permit, ["a"], roles, None)
        for labels in ["x", None, {"x"}, ["x", "x"], ("x", "y", "x"), 1, Hostile()]:
            self.raises(BadLabels, labels, is_permit, [], labels, None)

    def test_by_name(self):
        self.says(True, is_permit(thing=("make", "a"), labels=[], roles=["a"]))


class TestBook(WrapCase):
    def test_told_ascending(self):
        book = Book(["kek", "data"], ["y", "x"], [["wrap", "kek", "data"], ("make", "data"), ["bring", "kek"]])
        self.assertEqual(book.all_roles(), ["data", "kek"])
        self.assertEqual(book.all_labels(), ["x", "y"])
        told = book.all_permits()
        self.assertEqual(told, [("bring", "kek"), ("make", "data"), ("wrap", "kek", "data")])
        self.assertEqual([type(permit) for permit in told], [tuple] * 3)

    def test_empty(self):
        book = Book([], [], [])
        self.assertEqual((book.all_roles(), book.all_labels(), book.all_permits()), ([], [], []))
        self.assertEqual(book, Book((), (), ()))

    def test_told_new(self):
        book = labelled()
        for told in (book.all_roles, book.all_labels, book.all_permits):
            kept = told()
            told().append("q")
            told().clear()
            self.assertEqual(told(), kept)
            self.assertIs(type(told()), list)

    def test_passed_changed_later(self):
        roles, labels, permits = ["a"], ["x"], [["make", "a"]]
        book = Book(roles, labels, permits)
        self.assertEqual((roles, labels, permits), (["a"], ["x"], [["make", "a"]]))
        roles.append("b")
        labels.clear()
        permits[0][0] = "show"
        self.assertEqual(book, Book(["a"], ["x"], [("make", "a")]))

    def test_equal(self):
        book = labelled()
        self.assertEqual(book, Book(["b", "a"], ("y", "x"), as_lists(book.all_permits())[::-1]))
        self.assertFalse(book != Book(["b", "a"], ("y", "x"), book.all_permits()))
        others = [
            Book(["a", "b", "c"], ["x", "y"], book.all_permits()), Book(["a", "b"], ["x"], book.all_permits()),
            Book(["a", "b"], ["x", "y"], book.all_permits()[1:]), Book(["a", "b"], ["x", "z"], []),
        ] + odd_things()
        for other in others:
            self.says(False, book == other)
            self.says(True, book != other)

    def test_errors(self):
        self.raises(BadRoles, None, Book, None, None, None)
        self.raises(BadLabels, "x", Book, [], "x", None)
        for permits in [None, "make", {("make", "a")}, {("make", "a"): 1}, 1, Hostile()]:
            self.raises(BadPermits, 0, Book, ["a"], [], permits)
        self.raises(BadPermits, 1, Book, ["a"], [], [("make", "a"), ("make", "b"), None])
        self.raises(BadPermits, 2, Book, ["a"], [], [("make", "a"), ("show", "a"), ["make", "a"], 3])
        for thing in odd_things() + empties():
            self.raises(BadPermits, 1, Book, ["a"], [], [("make", "a"), thing])

    def test_names(self):
        for name in ["a", "z9", "a1b2c3d4", "abcdefgh", "known1"]:
            self.assertEqual(Book([name], [name], []).all_roles(), [name])
        self.assertEqual(Book(["a"], ["known"], []).all_labels(), ["known"])

    def test_by_name(self):
        self.assertEqual(Book(permits=PERMITS, labels=[], roles=ROLES), example())


class TestStart(WrapCase):
    def test_ordinary(self):
        book = example()
        for start in empties() + [[["kek"], ["data"]], [["data", "kek"], [], ["kek"]]]:
            self.says(True, is_start(book, start))
            self.says(True, is_start(book, as_tuples(start)))

    def test_wrong(self):
        book = example()
        for thing in odd_things() + [
            "kek", ["kek"], [["kek", "data"]], [["data", "data"]], [["known"]], [[], "data"], {"kek": 1}, [{"kek"}],
            [["data"], ["data", 1]], [["data"], None], [[["data"]]], [("data", Hostile())],
        ]:
            self.says(False, is_start(book, thing))

    def test_bad_book(self):
        for thing in odd_things():
            self.raises(BadBook, thing, is_start, thing, None)

    def test_errors_tell_the_first(self):
        names = {"data": "a", "kek": "b"}
        for start in [None, "kek", {"kek": 1}, {()}, 7, Hostile()]:
            self.raises(BadStart, 0, start_called, example(), start, names)
        self.raises(BadStart, 1, start_called, example(), [["kek"], ["kek", "data"], None], names)
        self.raises(BadStart, 2, start_called, example(), [["kek"], [], ["a"]], names)

    def test_by_name(self):
        self.says(True, is_start(thing=[], book=example()))


class TestLess(WrapCase):
    def test_ordinary(self):
        book = labelled()
        self.says(True, is_less(book, book))
        self.says(True, is_less(Book([], [], []), book))
        self.says(True, is_less(without(book, book.all_permits()), book))
        self.says(False, is_less(book, without(book, [("show", "b")])))
        self.says(False, is_less(Book(["c"], [], []), book))
        self.says(False, is_less(Book(["a"], ["z"], []), book))
        self.says(True, is_less(other=book, book=Book(["a"], ["y"], [])))

    def test_errors(self):
        for thing in odd_things():
            self.raises(BadBook, thing, is_less, thing, thing)
            self.raises(BadOther, thing, is_less, example(), thing)


class TestWithout(WrapCase):
    def test_ordinary(self):
        book = example()
        self.assertEqual(without(book, []), book)
        self.assertEqual(without(book, [["make", "data"], ("open", "data")]), Book(
            ROLES, [], [("wrap", "kek", "data"), ("unwrap", "kek", "data")],
        ))
        self.assertEqual(without(permits=tuple(PERMITS), book=book), Book(ROLES, (), ()))
        self.assertEqual(book, example())

    def test_errors(self):
        book = example()
        for thing in odd_things():
            self.raises(BadBook, thing, without, thing, thing)
        for permits in [None, "make", {}, set(), 1, Hostile()]:
            self.raises(BadPermits, 0, without, book, permits)
        self.raises(BadPermits, 0, without, book, [("make", "kek"), None])
        self.raises(BadPermits, 1, without, book, [("make", "data"), ["make", "data"], ("no",)])
        self.raises(BadPermits, 1, without, book, [("make", "data"), Hostile(), ("make", "kek")])


class TestCalled(WrapCase):
    def test_ordinary(self):
        names = {"kek": "data", "data": "kek"}
        self.assertEqual(called(example(), names), Book(ROLES, [], [
            ("make", "kek"), ("wrap", "data", "kek"), ("unwrap", "data", "kek"), ("open", "kek"),
        ]))
        self.assertEqual(start_called(example(), (("kek",), ["data", "kek"], ()), names), [
            ["data"], ["data", "kek"], [],
        ])
        self.assertEqual(names, {"kek": "data", "data": "kek"})
        turned = {"data": "kek", "kek": "data"}
        self.assertEqual(called(names=turned, book=example()), called(example(), names))

    def test_labels_and_alike(self):
        book = Book(["make", "b"], ["make", "y"], [("derive", "make", "make", "b"), ("make", "make")])
        told = called(book, {"make": "x", "b": "y", "y": "known"})
        self.assertEqual(told, Book(["x", "y"], ["x", "known"], [("derive", "x", "x", "y"), ("make", "x")]))
        self.assertEqual(start_called(book, [["b", "make"]], {"make": "z", "b": "y", "y": "known"}), [["y", "z"]])
        self.assertEqual(called(Book([], [], []), {}), Book([], [], []))

    def test_roles_ascend_anew(self):
        self.assertEqual(start_called(example(), [["data", "kek"]], {"data": "z", "kek": "a"}), [["a", "z"]])

    def test_told_new(self):
        start = [["kek"], ["kek"]]
        told = start_called(book=example(), start=start, names={"data": "data", "kek": "kek"})
        told[0].append("a")
        self.assertEqual((told[1], start), (["kek"], [["kek"], ["kek"]]))

    def test_errors(self):
        book = labelled()
        right = {"a": "b", "b": "a", "x": "x", "y": "z"}
        self.assertEqual(called(book, right).all_labels(), ["x", "z"])
        wrong = [
            {}, {"a": "b"}, dict(right, c="c"), dict(right, a="known"), dict(right, a="a"), dict(right, x="z"),
            dict(right, y="A"), list(right.items()), {1: "a", "b": "b", "x": "x", "y": "y"}, list(right),
        ] + [dict(right, a=name) for name in NO_NAMES] + [dict(right, x=name) for name in NO_NAMES]
        wrong += [thing for thing in odd_things()]
        for names in wrong:
            self.raises(BadNames, names, called, book, names)
            self.raises(BadNames, names, start_called, book, [["a"]], names)
        for thing in odd_things():
            self.raises(BadBook, thing, called, thing, None)
            self.raises(BadBook, thing, start_called, thing, None, None)
        self.raises(BadStart, 1, start_called, book, [[], ["x"]], None)
        alike = Book(["x"], ["x"], [])
        bad = {"x": "known"}
        self.raises(BadNames, bad, called, alike, bad)

    def test_there_and_back(self):
        for count in range(60):
            dice = Dice(count)
            roles, labels = dice.mixed(["a", "b", "make"]), dice.mixed(["x", "make"])
            book = Book(roles, labels, dice.part(all_permits(roles, labels)))
            there = dict(zip(["a", "b", "make", "x"], dice.mixed(["p", "q", "r", "s"])))
            back = {new: old for old, new in there.items()}
            self.assertEqual(called(called(book, there), back), book)
            start = [sorted(dice.part(roles)) for _ in range(3)]
            self.assertEqual(start_called(called(book, there), start_called(book, start, there), back), start)


class TestUsedRoles(WrapCase):
    def test_ordinary(self):
        self.assertEqual(used_roles(Book(["a", "b"], ["x"], [])), [])
        self.assertEqual(used_roles(Book(["a", "b", "c"], ["b"], [("derive", "c", "b", "a")])), ["a", "c"])
        self.assertEqual(used_roles(book=Book(["a", "show"], [], [("show", "a")])), ["a"])
        roles = list("hgfedcba")
        self.assertEqual(used_roles(Book(roles, [], [("copy", role, "d") for role in roles])), sorted(roles))

    def test_errors(self):
        for thing in odd_things():
            self.raises(BadBook, thing, used_roles, thing)
