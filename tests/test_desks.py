"""20: desks: deeds, what is guarded, what would come out, back and forth, copies, equality."""

from tests.each import NO_ASKED
from tests.plaindesk import PlainDesk, Refusal
from tests.plainwords import plain_brings, plain_reach
from tests.samples import all_permits
from tests.tools import Dice, Hostile, Odd, WrapCase, as_lists, as_tuples, empties, odd_things, ring
from underwraps import errors, refusals
from underwraps.books import Book
from underwraps.desks import Desk
from underwraps.errors import BadAsked, BadLabels, BadRoles
from underwraps.refusals import BadGiven, BadPermit, IsAllowed, IsGuarded, LetsOut, NotAllowed, NotGuarded

WRAP, UNWRAP, OPEN = ("wrap", "kek", "kek"), ("unwrap", "kek", "data"), ("open", "data")
NO_PERMITS = odd_things() + empties() + [
    ("make",), ("make", "q"), ("make", "known"), ("wrap", "kek"), ("open", "data", "data"), "open", ("derive", "kek", "y", "kek"), ("give", "kek"),
    [WRAP], ("Open", "data"), ("open", Hostile()), {"open": "data"}, ("part", "kek", "ann"),
]


def example():
    desk = Desk(["data", "kek"], [])
    desk.give(["kek"])
    desk.guard((0, []))
    return desk


def filled():
    """Return a desk with one of all there is."""
    desk = Desk(["data", "kek"], ["x"])
    desk.allow(("make", "data"))
    desk.allow(("derive", "kek", "x", "data"))
    desk.give(["kek"])
    desk.guard((0, ["x"]))
    desk.guard(("data", ()))
    return desk


class DeskCase(WrapCase):
    def lets_out(self, asked, call, *args):
        """Look that a call raises LetsOut with an asked key, told as guarded() tells it."""
        with self.assertRaises(LetsOut) as caught:
            call(*args)
        self.assertEqual(repr(vars(caught.exception)), repr({"asked": asked}))


class TestExample(DeskCase):
    def test_20_5(self):
        desk = example()
        self.assertIsNone(desk.allow(WRAP))
        self.assertIsNone(desk.allow(UNWRAP))
        self.lets_out((0, ()), desk.allow, OPEN)
        asked, log = desk.would(OPEN)
        self.assertEqual(asked, (0, ()))
        self.says(True, plain_brings([WRAP, UNWRAP, OPEN], [["kek"]], log, (0, ()), "known"))
        closed = ("under", (("given", 0), ()), (("given", 0), ()))
        self.says(True, plain_brings([WRAP, UNWRAP, OPEN], [["kek"]], [("wrap", 0, 0), ("unwrap", 0, closed, "data"), ("open", 1, closed)], (0, ()), "known"))
        other = example()
        for permit in (OPEN, WRAP):
            other.allow(permit)
        self.lets_out((0, ()), other.allow, UNWRAP)
        self.assertEqual(other.now()[0].all_permits(), [OPEN, WRAP])


class TestNew(DeskCase):
    def test_nothing_is_there(self):
        for desk in (Desk([], []), Desk(roles=(), labels=())):
            self.assertEqual(desk.now(), (Book([], [], []), []))
            self.assertEqual(desk.guarded(), [])
            for _ in range(2):
                self.assertIsNone(desk.undo())
                self.assertIsNone(desk.redo())
        self.assertEqual(Desk(("b", "a"), ["y", "x"]).now()[0], Book(["a", "b"], ["x", "y"], []))
        self.assertEqual(Desk(["b", "a"], ["y", "x"]), Desk(["a", "b"], ["x", "y"]))

    def test_wrong(self):
        for thing in odd_things() + [["known"], ["a", "a"], ["A"], "ab", None, {"a": 1}, ["a", Hostile()], ring()]:
            if not (isinstance(thing, list) and len(thing) == 1 and isinstance(thing[0], str)):
                self.raises(BadRoles, thing, Desk, thing, Hostile())
                self.raises(BadLabels, thing, Desk, [], thing)
        known = ["known"]
        self.raises(BadRoles, known, Desk, known, Hostile())
        self.assertEqual(Desk([], ["known"]).now()[0].all_labels(), ["known"])


class TestDeeds(DeskCase):
    def test_names_of_parameters(self):
        desk = Desk(["a"], ["x"])
        self.assertIsNone(desk.allow(permit=["make", "a"]))
        self.assertEqual(desk.give(some=("a",)), 0)
        self.assertEqual(desk.give([]), 1)
        self.assertIsNone(desk.guard(asked=["a", ["x"]]))
        self.assertEqual(repr(desk.guarded()), "[('a', ('x',))]")
        self.assertIsNone(desk.would(permit=["bring", "a"]))
        self.assertIsNone(desk.free(asked=("a", ("x",))))
        self.assertIsNone(desk.forbid(permit=("make", "a")))
        book, start = desk.now()
        self.assertEqual((book, start), (Book(["a"], ["x"], []), [["a"], []]))
        self.assertEqual(type(desk.now()), tuple)
        self.assertEqual(desk.give(("a",)), 2)

    def test_bad_permit(self):
        desk = filled()
        before = desk.copy()
        for thing in NO_PERMITS:
            for call in (desk.allow, desk.forbid, desk.would):
                self.raises(BadPermit, thing, call, thing)
        for permit in (["make", "data"], ("make", "data"), ["derive", "kek", "x", "data"]):
            self.raises(IsAllowed, permit, desk.allow, permit)
            self.raises(IsAllowed, permit, desk.would, permit)
        for permit in (["make", "kek"], ("derive", "kek", "x", "kek")):
            self.raises(NotAllowed, permit, desk.forbid, permit)
        self.assertEqual(desk, before)

    def test_bad_given(self):
        desk = filled()
        before = desk.copy()
        for thing in odd_things() + ["kek", None, ["kek", "data"], ["kek", "kek"], ["known"], ["q"], {"kek": 1}, ("kek", None), [Hostile()], {"kek"}, iter([])]:
            if isinstance(thing, (list, tuple)) and len(thing) == 0:
                continue
            self.raises(BadGiven, thing, desk.give, thing)
        self.assertEqual(desk, before)

    def test_bad_asked(self):
        desk = filled()
        before = desk.copy()
        for thing in NO_ASKED + [(1, ()), ("kek", ()), (0, ("y",)), (False, ()), (0.0, ()), (0, "x"), (0, [None])]:
            self.raises(BadAsked, thing, desk.guard, thing)
            self.raises(BadAsked, thing, desk.free, thing)
        for thing in ([0, ["x"]], (0, ("x",)), ["data", ()]):
            self.raises(IsGuarded, thing, desk.guard, thing)
        for thing in ([0, []], ("known", ("x",)), ("data", ["x"])):
            self.raises(NotGuarded, thing, desk.free, thing)
        self.assertEqual(desk, before)

    def test_what_only_looks_guarded(self):
        desk = Desk(["a"], ["x"])
        desk.give([])
        desk.give([])
        for asked in ((0, ()), (1, ()), (0, ("x",)), (1, ["x"])):
            desk.guard(asked)
        for thing in ((False, ()), (True, ()), (0.0, ()), (1.0, []), ("0", ()), (0, [Hostile()]), (1, [Hostile()]), (Hostile(), ()), (0, ["y"]), (0, "x"), (0, {})):
            self.raises(BadAsked, thing, desk.free, thing)
        self.assertEqual(len(desk.guarded()), 4)

    def test_guarded_ones_that_cannot_be_made_now(self):
        desk = filled()
        desk.forbid(("make", "data"))
        self.assertEqual(desk.guarded(), [(0, ("x",)), ("data", ())])
        self.assertIsNone(desk.would(("seal", "kek")))
        asked = ("data", ("x",))
        self.raises(BadAsked, asked, desk.guard, asked)
        same = ["data", []]
        self.raises(BadAsked, same, desk.guard, same)
        self.raises(BadAsked, asked, desk.free, asked)
        # One of a role that cannot be made is not told; what may be made again is.
        self.lets_out((0, ("x",)), desk.allow, ("show", "data"))
        desk.free([0, ("x",)])
        self.assertIsNone(desk.allow(("show", "data")))
        self.lets_out(("data", ()), desk.allow, ("make", "data"))
        desk.free(["data", ()])
        self.assertIsNone(desk.allow(("make", "data")))
        self.assertEqual(desk.guarded(), [])

    def test_lets_out(self):
        desk = Desk(["a", "b"], [])
        desk.give(["a"])
        desk.allow(("show", "b"))
        self.lets_out(("known", ()), desk.guard, ["known", []])
        desk.guard([0, []])
        self.lets_out((0, ()), desk.allow, ("copy", "a", "b"))
        desk.give(["b"])
        self.lets_out((1, ()), desk.guard, (1, []))
        self.lets_out(("known", ()), desk.guard, ("known", ()))
        # The first one in the order in which they were guarded.
        desk.forbid(("show", "b"))
        desk.guard((1, ()))
        desk.give([])
        self.lets_out((1, ()), desk.allow, ("show", "b"))
        desk.free((0, ()))
        desk.guard((0, ()))
        self.assertEqual(desk.guarded(), [(1, ()), (0, ())])
        desk.allow(("copy", "a", "b"))
        self.lets_out((1, ()), desk.allow, ("show", "b"))
        self.assertEqual(desk.would(("show", "b"))[0], (1, ()))
        desk.free((1, ()))
        self.lets_out((0, ()), desk.allow, ("show", "b"))

    def test_a_key_that_lets_another_one_out(self):
        desk = Desk(["a", "b", "c"], [])
        for permit in (("wrap", "a", "b"), ("open", "c")):
            desk.allow(permit)
        desk.give(["b"])
        desk.guard((0, ()))
        desk.give(["a"])
        self.lets_out((0, ()), desk.give, ["a", "c"])
        self.assertEqual(desk.now()[1], [["b"], ["a"]])
        self.assertEqual(desk.give(["c"]), 2)


class TestBackAndForth(DeskCase):
    def test_each_word(self):
        desk = filled()
        desk.free((0, ["x"]))
        desk.forbid(("make", "data"))
        words = ["allow", "allow", "give", "guard", "guard", "free", "forbid"]
        places = []
        for word in words[::-1]:
            places.append((desk.now(), desk.guarded()))
            self.assertEqual(desk.undo(), word)
        self.assertIsNone(desk.undo())
        self.assertEqual((desk.now(), desk.guarded()), ((Book(["data", "kek"], ["x"], []), []), []))
        for word in words:
            self.assertEqual(desk.redo(), word)
            self.assertEqual((desk.now(), desk.guarded()), places.pop())
        self.assertIsNone(desk.redo())

    def test_a_deed_behind_an_undo(self):
        desk = filled()
        desk.undo()
        desk.undo()
        desk.give([])
        self.assertIsNone(desk.redo())
        self.assertEqual(desk.now()[1], [["kek"], []])
        self.assertEqual([desk.undo(), desk.undo()], ["give", "give"])
        self.assertEqual(desk.redo(), "give")
        self.assertEqual(desk.now()[1], [["kek"]])

    def test_a_refused_deed_between(self):
        desk = filled()
        desk.undo()
        before = desk.copy()
        for call, thing in ((desk.allow, ("show", "data")), (desk.allow, ("make", "data")), (desk.forbid, ("make", "kek")), (desk.give, ["q"]), (desk.guard, ("kek", ())),
                            (desk.guard, ("known", ())), (desk.free, ("data", ())), (desk.would, ("make", "q"))):
            with self.assertRaises(errors.WrapError):
                call(thing)
            self.assertEqual(desk, before)
        self.assertIsNotNone(desk.would(("show", "data")))
        self.assertIsNone(desk.would(("seal", "kek")))
        self.assertEqual(desk, before)
        self.assertEqual(desk.redo(), "guard")
        self.assertEqual(desk, filled())

    def test_a_key_of_a_number_that_is_given_again(self):
        desk = Desk(["a", "b"], [])
        desk.give(["a"])
        desk.guard((0, ()))
        desk.undo()
        desk.undo()
        self.assertEqual((desk.guarded(), desk.now()[1]), ([], []))
        asked = (0, ())
        self.raises(BadAsked, asked, desk.guard, asked)
        self.assertEqual([desk.redo(), desk.redo(), desk.redo()], ["give", "guard", None])
        self.assertEqual(desk.guarded(), [(0, ())])


class TestCopies(DeskCase):
    def test_a_copy_goes_on_by_itself(self):
        desk = filled()
        desk.undo()
        other = desk.copy()
        self.assertEqual(other, desk)
        self.assertEqual(other.redo(), "guard")
        self.assertFalse(other == desk)
        self.assertEqual(desk.redo(), "guard")
        self.assertEqual(other, desk)
        other.give([])
        self.assertEqual((len(desk.now()[1]), len(other.now()[1])), (1, 2))
        self.assertEqual([other.undo() for _ in range(7)], ["give", "guard", "guard", "give", "allow", "allow", None])
        self.assertEqual(desk, filled())
        self.assertEqual([desk.undo() for _ in range(6)], ["guard", "guard", "give", "allow", "allow", None])
        self.assertFalse(desk == other)

    def test_what_is_equal(self):
        self.assertEqual(filled(), filled())
        one, other = Desk(["a"], []), Desk(["a"], [])
        one.allow(("make", "a"))
        one.allow(("show", "a"))
        other.allow(("show", "a"))
        other.allow(("make", "a"))
        # Whatever was done ahead.
        self.assertEqual(one, other)
        one.forbid(("show", "a"))
        one.allow(("show", "a"))
        self.assertEqual(one, other)
        one.undo()
        self.assertFalse(one == other)
        one.redo()
        self.assertEqual(one, other)
        one.undo()
        other.undo()
        self.assertFalse(one == other)
        two, three = Desk(["a"], []), Desk(["a"], [])
        for desk in (two, three):
            desk.give([])
            desk.give(["a"])
        for desk, order in ((two, (0, 1)), (three, (1, 0))):
            for at in order:
                desk.guard((at, ()))
        self.assertFalse(two == three)
        self.assertFalse(Desk([], []) == Desk(["a"], []) or Desk([], []) == Desk([], ["a"]))
        for thing in odd_things() + [Odd(), Book([], [], []), (Book([], [], []), [])]:
            if not isinstance(thing, Hostile):
                self.assertFalse(Desk([], []) == thing)
                self.assertTrue(Desk([], []) != thing)

    def test_what_could_be_redone(self):
        one, other, third = Desk(["a"], []), Desk(["a"], []), Desk(["a"], [])
        one.allow(("make", "a"))
        other.allow(("show", "a"))
        third.allow(("make", "a"))
        for desk in (one, other, third):
            self.assertEqual(desk.undo(), "allow")
        self.assertFalse(one == other)
        self.assertEqual(one, third)
        self.assertFalse(one == Desk(["a"], []))

    def test_told_new(self):
        desk = filled()
        kept = desk.copy()
        book, start = desk.now()
        start[0].append("data")
        start.append([])
        desk.guarded().clear()
        some, asked, permit = ["kek"], ["data", ["x"]], ["seal", "kek"]
        desk.give(some)
        desk.guard(asked)
        desk.allow(permit)
        for thing in (some, asked[1], asked, permit):
            thing.clear()
        self.assertEqual(desk.now(), (Book(["data", "kek"], ["x"], [*book.all_permits(), ("seal", "kek")]), [["kek"], ["kek"]]))
        self.assertEqual(desk.guarded(), [(0, ("x",)), ("data", ()), ("data", ("x",))])
        for _ in range(3):
            desk.undo()
        self.assertFalse(desk == kept)
        roles, labels = ["a"], ["x"]
        other = Desk(roles, labels)
        roles.clear()
        labels.clear()
        self.assertEqual(other, Desk(["a"], ["x"]))
        told = filled().would(("show", "data"))
        told[1].clear()
        self.assertTrue(filled().would(("show", "data"))[1])


class TestByPlainDesk(DeskCase):
    def both(self, desk, plain, word, thing):
        """Do a deed at both; return the class of what was raised."""
        wanted, error = None, None
        try:
            wanted = getattr(plain, word)(*thing)
        except Refusal as refusal:
            error = refusal
        if error is None:
            self.assertEqual(getattr(desk, word)(*thing), wanted)
            return word
        with self.assertRaises(errors.WrapError) as caught:
            getattr(desk, word)(*thing)
        self.assertIs(type(caught.exception), getattr(errors, error.error, None) or getattr(refusals, error.error))
        held = list(vars(caught.exception).values())
        self.assertEqual(held, [error.held])
        if error.error != "LetsOut":
            self.assertIs(held[0], error.held)
        return error.error

    def deed(self, dice, plain):
        roles, labels = plain.roles, plain.labels
        permits = all_permits(roles, labels) + [("make", "q")]
        word = dice.one(["allow"] * 5 + ["forbid", "give", "guard", "guard", "free", "undo", "redo", "undo", "redo"])
        if word in ("undo", "redo"):
            return word, ()
        if word in ("allow", "forbid"):
            likely = [permit for permit in permits if permit[0] not in ("show", "bring")] if dice.number(4) else permits
            return word, (dice.one(likely + plain.there[0] * (word == "forbid")),)
        if word == "give":
            return word, (dice.one([dice.part(roles), dice.part(roles)[::-1]]),)
        roots = list(range(len(plain.there[1]) + 1)) + roles + ["known"]
        asked = (dice.one(roots), tuple(dice.some(labels, dice.number(2))) if labels else ())
        return word, (dice.one([asked, as_lists(asked)] + plain.there[2] * (word == "free")),)

    def test_20_1_to_20_4(self):
        done = {}
        for count in range(70):
            dice = Dice(count)
            roles, labels = ["a", "b", "c"][:1 + dice.number(3)], ["x"][:dice.number(2)]
            desk, plain, copies = Desk(roles, labels), PlainDesk(roles, labels), []
            for step in range(45):
                word, thing = self.deed(dice, plain)
                told = self.both(desk, plain, word, thing)
                done[told] = done.get(told, 0) + 1
                permits, given, guarded = plain.there
                book, start = desk.now()
                self.assertEqual((book, start, desk.guarded()), (plain.book(permits), given, guarded))
                # No guarded key is ever told by what is there.
                self.assertIsNone(plain.first_out(plain.there))
                if step % 15 == 7:
                    copies.append((desk.copy(), plain.shown()))
            for other, shown in copies:
                self.assertEqual(other == desk, shown == plain.shown())
            for first, one in copies:
                for second, two in copies:
                    self.assertEqual(first == second, one == two)
        for word in ("allow", "forbid", "give", "guard", "free", "undo", "redo", "LetsOut", "IsAllowed", "NotAllowed", "BadPermit", "BadGiven", "IsGuarded", "NotGuarded", "BadAsked"):
            self.assertGreater(done[word], 10, word)

    def test_20_2_would(self):
        told = kept = 0
        for count in range(60):
            dice = Dice(count)
            roles, labels = ["a", "b", "c"][:1 + dice.number(3)], ["x"][:dice.number(2)]
            desk, plain = Desk(roles, labels), PlainDesk(roles, labels)
            for _ in range(25):
                word, thing = self.deed(dice, plain)
                self.both(desk, plain, word, thing)
            permits, given, guarded = plain.there
            for permit in all_permits(roles, labels):
                if permit in permits:
                    continue
                before = desk.copy()
                found = desk.would(dice.one([permit, list(permit)]))
                out = plain.first_out((permits + [permit], given, guarded))
                self.assertEqual(desk, before)
                if out is None:
                    self.assertIsNone(found)
                    kept += 1
                    continue
                self.assertEqual(repr(found[0]), repr(out))
                self.says(True, plain_brings(permits + [permit], given, found[1], out, "known"))
                told += 1
                other = desk.copy()
                self.lets_out(out, other.allow, permit)
        self.assertGreater(min(told, kept), 50)

    def test_20_4_less_never_lets_out(self):
        for count in range(40):
            dice = Dice(count)
            book = Book(["a", "b"], [], dice.part(all_permits(["a", "b"], [])))
            less = Book(["a", "b"], [], dice.part(book.all_permits()))
            self.assertLessEqual(plain_reach(less, [["a"]], (0, ())), plain_reach(book, [["a"]], (0, ())))

    def test_forms(self):
        for shape in (as_lists, as_tuples):
            desk = Desk(shape(["data", "kek"]), shape(["x"]))
            desk.allow(shape(("make", "data")))
            desk.allow(shape(("derive", "kek", "x", "data")))
            desk.give(shape(["kek"]))
            desk.guard(shape((0, ("x",))))
            desk.guard(shape(("data", ())))
            self.assertEqual(desk, filled())
            self.assertEqual(repr((desk.now()[1], desk.guarded())), repr((filled().now()[1], filled().guarded())))
