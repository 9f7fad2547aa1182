"""14.1 to 14.3, 14.6: tiers, what they keep, the finest tiering, safe roles."""

from tests.plain import is_under, parts, plain_knows, plain_log, saturated
from tests.plainrules import all_asked, plain_states
from tests.plaintiers import all_tierings, plain_fits
from tests.plainwords import plain_reach, roots_in
from tests.samples import all_permits, some_log
from tests.tools import Dice, Hostile, Odd, WrapCase, as_lists, as_tuples, empties, odd_things
from underwraps.books import Book
from underwraps.levels import least_levels
from underwraps.outwords import kind_of
from underwraps.tiers import finest_tiering, is_tiering, safe_roles, tiers_fault

PERMITS = [("make", "data"), ("wrap", "kek", "data"), ("unwrap", "kek", "data"), ("seal", "data"), ("open", "data")]
BOOK, START = Book(["data", "kek"], [], PERMITS), [["kek"], ["data"]]
TIERS = {"data": 1, "kek": 2, "known": 0}
BARE = Book([], [], [])


def few_permits(dice, roles, labels, many):
    """Return a book of at most so many permits, mostly such as keep tiers apart."""
    every = dice.mixed(all_permits(roles, labels))
    likely = [permit for permit in every if permit[0] in ("wrap", "unwrap", "seal", "open", "make")]
    return Book(roles, labels, sorted(set(likely[:dice.number(many + 1)] + every[:dice.number(2)])))


def some_tiers(count):
    """Return (dice, book, start) of at most three roles."""
    dice = Dice(count)
    roles = ["a", "b", "c"][:dice.number(4)]
    book = few_permits(dice, roles, ["x"][:dice.number(2)], 4)
    return dice, book, [sorted(dice.mixed(roles)[:dice.one([0, 1, 1, 1, 2])]) for _ in range(dice.number(3))]


class TestExample(WrapCase):
    def test_14_6(self):
        self.assertEqual(finest_tiering(BOOK, START), (TIERS, [0, 0, 1]))
        copied = Book(["data", "kek"], [], PERMITS + [("copy", "kek", "data")])
        self.assertEqual(safe_roles(copied, START), [])
        ringed = Book(["data", "kek"], [], [("wrap", "kek", "kek"), ("unwrap", "kek", "kek")])
        self.assertEqual(safe_roles(ringed, START), ["data", "kek"])


class TestFault(WrapCase):
    def fault(self, tiers, below, book=BOOK, start=tuple(START)):
        told = tiers_fault(book, start, (tiers, below))
        for shape in (as_lists, as_tuples):
            self.assertEqual(tiers_fault(thing=shape((tiers, below)), start=start, book=book), told)
            self.says(told is None, is_tiering(thing=shape((tiers, below)), start=start, book=book))
        turned = {state: tiers[state] for state in sorted(tiers, reverse=True)}
        self.assertEqual(tiers_fault(book, start, [turned, below]), told)
        return told

    def test_each(self):
        self.assertIsNone(self.fault(TIERS, [0, 0, 1]))
        self.assertIsNone(self.fault(TIERS, [0, 0, 1, None, 4, 2]))
        self.assertIsNone(self.fault({"data": 2, "kek": 1, "known": 0}, [0, 2, 0]))
        self.assertIsNone(self.fault({"data": 0, "kek": 0, "known": 0}, [0]))
        self.assertEqual(self.fault({"data": 1, "kek": 2, "known": 1}, [0, 0, 1]), ("known", 0))
        self.assertEqual(self.fault(TIERS, [1, 0, 1]), ("known", 0))
        self.assertEqual(self.fault(TIERS, [None, 0, 1]), ("known", 0))
        self.assertEqual(self.fault(TIERS, [0, 0, 1], start=[[], ["data"], ["data", "kek"], ["data", "kek"]]), ("given", 2))
        self.assertEqual(self.fault(TIERS, [0, 0, 2]), ("permit", ("unwrap", "kek", "data")))
        self.assertEqual(self.fault(TIERS, [0, None, 1]), ("permit", ("open", "data")))
        self.assertEqual(self.fault(TIERS, [0, 1, 1]), ("permit", ("open", "data")))

    def test_each_permit(self):
        for permit, fitting in [
            (("make", "a"), [0, 1, 2, 3]), (("bring", "a"), [0, 1]), (("show", "a"), [0, 1]), (("copy", "a", "b"), [0, 3]),
            (("derive", "a", "x", "b"), [0, 3]), (("wrap", "a", "b"), [0, 2]), (("unwrap", "a", "b"), [0, 2]),
            (("seal", "a"), [0, 1, 2, 3]), (("open", "a"), [0, 1, 2, 3]), (("wrap", "a", "a"), [0, 1]), (("copy", "b", "a"), [0, 3]),
            (("wrap", "b", "a"), [0, 1]), (("copy", "a", "a"), [0, 1, 2, 3]),
        ]:
            book = Book(["a", "b"], ["x"], [permit])
            for at, (a, b) in enumerate([(0, 0), (0, 1), (1, 0), (1, 1)]):
                told = self.fault({"a": a, "b": b, "known": 0}, [0, 0], book, [])
                self.assertEqual(told, None if at in fitting else ("permit", permit))

    def test_form(self):
        wrong = [
            (TIERS,), (TIERS, [0, 0, 1], 0), ([0, 0, 1], TIERS), (TIERS, [0, 0]), (TIERS, []), ({"data": 1, "kek": 2}, [0, 0, 1]),
            ({**TIERS, "more": 0}, [0, 0, 1]), ({"data": 1, "kek": 2, "other": 0}, [0, 0, 1]), ({**TIERS, "data": True}, [0, 0, 1]),
            ({**TIERS, "data": -1}, [0, 0, 1]), ({**TIERS, "data": 1.0}, [0, 0, 1]), ({**TIERS, "data": None}, [0, 0, 1]),
            ({**TIERS, "data": "1"}, [0, 0, 1]), ({**TIERS, "data": 3}, [0, 0, 1]), (TIERS, [0, 0, 3]), (TIERS, [0, 0, True]),
            (TIERS, [0, False, 1]), (TIERS, [0, -1, 1]), (TIERS, [0, "0", 1]), (TIERS, [0, 0.0, 1]), (TIERS, "001"), (TIERS, {0: 0}),
            (list(TIERS.items()), [0, 0, 1]), ({**TIERS, "data": Hostile()}, [0, 0, 1]), (TIERS, [0, Hostile(), 1]), (TIERS, Hostile()),
            (Hostile(), [0, 0, 1]), (None, None), ({1: 0, "kek": 0, "known": 0}, [0]), Odd(), {0: TIERS, 1: [0, 0, 1]},
        ]
        for thing in odd_things() + empties() + wrong:
            self.assertEqual(tiers_fault(BOOK, START, thing), ("form", 0))
            self.says(False, is_tiering(BOOK, START, thing))
        self.assertEqual(self.fault({"known": 0}, [0], BARE, [[]]), None)
        self.assertEqual(self.fault({"known": 0}, [0, None], BARE, [[]]), None)

    def test_as_a_plain_reading(self):
        said = {}
        for count in range(200):
            dice, book, start = some_tiers(count)
            for _ in range(15):
                many = 1 + dice.number(3)
                tiers = {state: dice.number(many) for state in plain_states(book)}
                below = [dice.one([None, dice.number(many), 0]) for _ in range(many)]
                if dice.number(4):
                    tiers["known"], below[0] = 0, 0
                wanted = plain_fits(book, start, tiers, below)
                self.assertEqual(self.fault(tiers, below, book, start), wanted)
                said[wanted and wanted[0]] = said.get(wanted and wanted[0], 0) + 1
        for word in (None, "known", "given", "permit"):
            self.assertGreater(said[word], 50)


class TestFinest(WrapCase):
    def test_edges(self):
        self.assertEqual(finest_tiering(BARE, []), ({"known": 0}, [0]))
        self.assertEqual(finest_tiering(start=((),), book=BARE), ({"known": 0}, [0]))
        self.assertEqual(safe_roles(BARE, []), [])
        self.assertEqual(finest_tiering(Book(["a", "b"], [], []), []), ({"a": 1, "b": 2, "known": 0}, [0, None, None]))
        self.assertEqual(safe_roles(Book(["b", "a"], ["x"], [("make", "a")]), []), ["a", "b"])
        self.assertEqual(finest_tiering(Book(["a", "b"], [], []), [["a", "b"]]), ({"a": 1, "b": 1, "known": 0}, [0, None]))
        every = Book(["a", "b"], ["x"], all_permits(["a", "b"], ["x"]))
        self.assertEqual(finest_tiering(every, []), ({"a": 0, "b": 0, "known": 0}, [0]))
        self.assertEqual(safe_roles(start=[], book=every), [])

    def test_one_beneath_makes_others_one(self):
        wraps = [("wrap", "a", "b"), ("unwrap", "a", "c"), ("wrap", "b", "d"), ("wrap", "c", "e"), ("open", "d")]
        book = Book(["a", "b", "c", "d", "e"], [], wraps)
        self.assertEqual(finest_tiering(book, []), ({"a": 1, "b": 2, "c": 2, "d": 3, "e": 3, "known": 0}, [0, 2, 3, 0]))
        book = Book(["a", "b"], [], [("open", "a"), ("wrap", "a", "b")])
        self.assertEqual(finest_tiering(book, []), ({"a": 1, "b": 0, "known": 0}, [0, 0]))
        self.assertEqual(safe_roles(book, []), ["a"])

    def test_among_all_tierings(self):
        sizes = {}
        for count in range(170):
            _, book, start = some_tiers(count)
            states = plain_states(book)
            tiers, below = finest_tiering(book, start)
            self.says(True, is_tiering(book, start, (tiers, below)))
            every = all_tierings(book, start)
            for state in states:
                for other in states:
                    together = all([one[state] == one[other] for one, _ in every])
                    self.assertEqual(tiers[state] == tiers[other], together)
            self.assertEqual(list(tiers), states)
            ordered = [tiers[state] for state in ["known"] + book.all_roles()]
            self.assertEqual(sorted(set(ordered), key=ordered.index), list(range(len(below))))
            fitted = [beneath for one, beneath in every if one == tiers and len(beneath) == len(below)]
            self.assertIn(below, fitted)
            # None wherever it may stand.
            for at in range(len(below)):
                if below[at] is not None:
                    self.assertNotIn(below[:at] + [None] + below[at + 1:], fitted)
            self.assertEqual(safe_roles(book, start), [role for role in book.all_roles() if tiers[role] != 0])
            for role in book.all_roles():
                self.assertEqual(tiers[role] == 0, all([one[role] == 0 for one, _ in every]))
            sizes[len(below)] = sizes.get(len(below), 0) + 1
        self.assertGreater(len(sizes), 3)

    def test_safe_roles_are_safe(self):
        safe = 0
        for count in range(150):
            _, book, start = some_tiers(count)
            roles = safe_roles(book, start)
            for asked in all_asked(book, start, 2):
                states = plain_reach(book, start, asked)
                if states & set(roles):
                    self.assertNotIn("known", states)
                    self.assertEqual(kind_of(book, start, asked), "safe")
                    safe += 1
            levels = least_levels(book, start)
            if levels is not None:
                top = max(levels.values())
                self.says(True, is_tiering(book, start, (levels, [0] + list(range(top)))))
        self.assertGreater(safe, 50)


class TestKept(WrapCase):
    def test_14_2(self):
        handles = known = closed = 0
        for count in range(120):
            dice, book, start = some_tiers(count)
            log = some_log(dice, book, start, 14) if book.all_roles() else []
            house, _, fault = plain_log(book.all_permits(), start, log)
            self.assertIsNone(fault)
            every = all_tierings(book, start)
            for tiers, below in [finest_tiering(book, start)] + dice.some(every, 4):
                self.kept(house, roots_in(log), start, tiers, below)
            handles += len(house.handles)
            known += len([thing for thing in house.out if not is_under(thing)])
            closed += len([thing for thing in house.out if is_under(thing)])
        self.assertGreater(handles, 200)
        self.assertGreater(known, 20)
        self.assertGreater(closed, 50)

    def kept(self, house, made, start, tiers, below):
        """Look at all that 14.2 says of a house and a tiering that fits."""
        def tier(key):
            word, number = key[0]
            return 0 if word == "own" else tiers[made[number]] if word == "made" else tiers[start[number][0]]

        for key, role in house.handles:
            self.assertEqual(tiers[role], tier(key))
        inside = set().union(*[parts(thing) for thing in house.out])
        for thing in saturated(house.out, inside):
            if not is_under(thing):
                self.assertEqual(tier(thing), 0)
        for thing in inside:
            if is_under(thing) and any([thing in things_in(out) for out in house.out]):
                _, key, inner = thing
                key_beneath = not is_under(inner) and below[tier(key)] is not None and tier(inner) == below[tier(key)]
                self.assertTrue(key_beneath or (plain_knows(house.out, inner) and below[tier(key)] == 0))


def things_in(thing):
    """Return the things that stand in a thing, itself among them."""
    return [thing] + (things_in(thing[2]) if is_under(thing) else [])
