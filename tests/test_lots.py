"""16.1 to 16.5, 16.7: idle permits, what is kept, lots that tell and lots that keep, guards."""

from tests.plain import plain_log
from tests.plainrules import all_asked, plain_states
from tests.plaintiers import all_lots
from tests.plainwords import keys_asked, plain_brings, plain_least, plain_reach
from tests.samples import all_permits, some_case, some_start
from tests.tools import Dice, Hostile, Odd, WrapCase, as_lists, as_tuples, empties, odd_things, ring
from underwraps.books import Book, without
from underwraps.logs import permits_used
from underwraps.lots import (
    guards, idle_permits, is_idle, is_keeping_lot, is_kept, is_telling_lot, keeping_lots, least_meeting, lots_fault,
    telling_lots, thinned_book,
)
from underwraps.machines import least_machine
from underwraps.prooflogs import telling_log
from underwraps.refusals import BadLots, BadPermit, BadSecrets

PERMITS = [("bring", "a"), ("make", "a"), ("make", "d"), ("open", "a"), ("wrap", "a", "d")]
BRING, MAKE, MAKE_D, OPEN, WRAP = PERMITS
BOOK = Book(["a", "d"], [], PERMITS)
SECRETS = [("d", ())]
TELLING = [[BRING, MAKE_D, WRAP], [MAKE, MAKE_D, OPEN, WRAP]]
KEEPING = [[BRING, MAKE], [BRING, OPEN], [MAKE_D], [WRAP]]
BARE = Book([], [], [])


def some_lots(count, most=6):
    """Return (dice, book, start, secrets): a book of at most so many permits."""
    dice = Dice(count)
    roles, labels = ["a", "b", "c"][:1 + dice.number(3)], ["x"][:dice.number(2)]
    likely = dice.mixed([permit for permit in all_permits(roles, labels) if permit[0] not in ("seal", "derive")])
    permits = set(likely[:dice.number(most)] + dice.some(all_permits(roles, labels), dice.number(2)))
    book, start = Book(roles, labels, sorted(permits)), some_start(dice, roles, 2)
    every = [asked for asked in all_asked(book, start, 1) if asked[0] != "known"]
    return dice, book, start, dice.some(every, dice.number(4)) if every else []


def plain_keeps(book, start, secrets, lot):
    """Tell whether the book of a lot's permits alone keeps secrets, by 16.2."""
    part = Book(book.all_roles(), book.all_labels(), sorted(lot))
    there = [asked for asked in secrets if isinstance(asked[0], int) or ("make", asked[0]) in lot]
    return not any(["known" in plain_reach(part, start, asked) for asked in there])


def least_ones(lots):
    """Return, ascending, as lists, those lots of which no lesser part is one of them."""
    return sorted([sorted(lot) for lot in lots if not any([other < lot for other in lots])])


class TestExample(WrapCase):
    def test_16_7(self):
        self.assertEqual(telling_lots(BOOK, [], SECRETS), TELLING)
        self.assertEqual(keeping_lots(BOOK, [], SECRETS), KEEPING)
        self.assertEqual(guards(BOOK, [], SECRETS), [MAKE_D, WRAP])


class TestIdle(WrapCase):
    def test_edges(self):
        self.assertEqual(idle_permits(BARE, []), [])
        self.assertEqual(thinned_book(start=((),), book=BARE), BARE)
        self.assertEqual(idle_permits(BOOK, []), [MAKE, OPEN])
        self.assertEqual(thinned_book(BOOK, []), without(BOOK, [MAKE, OPEN]))
        self.says(True, is_idle(BOOK, [], MAKE))
        self.says(False, is_idle(permit=["make", "d"], start=(), book=BOOK))
        nothing = Book(["a", "b"], ["x"], [("derive", "a", "x", "b"), ("wrap", "a", "b"), ("open", "b")])
        self.assertEqual(idle_permits(nothing, [[]]), nothing.all_permits())
        self.assertEqual(thinned_book(nothing, [[]]), Book(["a", "b"], ["x"], []))

    def test_two_that_are_idle_together_are_not(self):
        book = Book(["a", "b"], [], [("copy", "a", "b"), ("copy", "b", "a"), ("show", "a"), ("show", "b"), ("bring", "a"), ("make", "a")])
        idle = idle_permits(book, [])
        self.assertEqual(idle, [("make", "a")])
        twice = Book(["a", "b"], ["x"], [("derive", "a", "x", "b"), ("make", "b"), ("make", "a")])
        self.assertEqual(idle_permits(twice, []), [("derive", "a", "x", "b"), ("make", "b")])
        self.assertEqual(thinned_book(twice, []).all_permits(), [("make", "a"), ("make", "b")])

    def test_bad_permit(self):
        for thing in odd_things() + empties() + [
            ("make",), ("make", "a", "a"), ("show", "a"), ("make", "b"), ("wrap", "d", "a"), "make", MAKE + ("a",), [MAKE], ("make", Hostile()),
        ]:
            self.raises(BadPermit, thing, is_idle, BOOK, [], thing)

    def test_16_1(self):
        told, two = {True: 0, False: 0}, 0
        for count in range(170):
            _, book, start, _ = some_lots(count, 9)
            machine = [sorted(some) for some in plain_least(book, start)]
            idle = []
            for permit in book.all_permits():
                same = [sorted(some) for some in plain_least(without(book, [permit]), start)] == machine
                self.says(same, is_idle(book, start, permit))
                idle += [permit] if same else []
                told[same] += 1
            self.assertEqual(idle_permits(book, start), idle)
            left = book
            for permit in book.all_permits():
                if [sorted(some) for some in plain_least(without(left, [permit]), start)] == machine:
                    left = without(left, [permit])
            self.assertEqual(thinned_book(book, start), left)
            self.assertEqual(least_machine(left, start), tuple(machine))
            self.assertEqual(idle_permits(left, start), [])
            two += len(idle) > len(book.all_permits()) - len(left.all_permits())
        self.assertGreater(min(told.values()), 100)
        self.assertGreater(two, 5)


class TestKept(WrapCase):
    def test_edges(self):
        self.says(True, is_kept(BARE, [], []))
        self.says(True, is_kept(BARE, [[]], [(0, ())]))
        self.says(True, is_kept(BOOK, [], []))
        self.says(True, is_kept(BOOK, [], [("a", ())]))
        self.says(False, is_kept(secrets=(["a", []], ["d", []]), start=(), book=BOOK))
        self.says(True, is_kept(without(BOOK, [BRING]), [], [("a", ())]))
        self.says(False, is_kept(without(BOOK, [BRING]), [], [("a", ()), ("d", ())]))
        self.says(False, is_kept(Book(["a"], ["x"], [("derive", "a", "x", "a"), ("show", "a")]), [["a"]], [(0, ("x",) * 10)]))

    def test_bad_secrets(self):
        every = [is_kept, telling_lots, keeping_lots, guards]
        for thing in [None, "ab", "", 0, True, {}, {("d", ()): 0}, {("d", ())}, Odd(), Hostile(), iter(SECRETS)]:
            for call in every:
                self.raises(BadSecrets, 0, call, BOOK, [], thing)
            for call in (is_telling_lot, is_keeping_lot, lots_fault):
                self.raises(BadSecrets, 0, call, BOOK, [], thing, Hostile())
        for thing in odd_things() + empties() + [("known", ()), (0, ()), ("d", ("x",)), ("b", ()), ["known", []], ("d",)]:
            for call in every:
                self.raises(BadSecrets, 2, call, BOOK, [], [("d", ()), ("a", []), thing, None])
        self.raises(BadSecrets, 0, is_kept, BOOK, [], [("known", ())])

    def test_16_2(self):
        kept = {True: 0, False: 0}
        for count in range(150):
            dice, book, start, secrets = some_lots(count, 8)
            told = is_kept(book, start, secrets)
            self.says(plain_keeps(book, start, secrets, set(book.all_permits())), told)
            kept[told] += 1
            less = dice.part(book.all_permits())
            part = Book(book.all_roles(), book.all_labels(), less)
            there = [asked for asked in secrets if isinstance(asked[0], int) or ("make", asked[0]) in less]
            if told:
                self.says(True, is_kept(part, start, there))
            for asked in secrets:
                found = telling_log(book, start, asked)
                if found is not None:
                    used = permits_used(book, start, found[0])
                    alone = Book(book.all_roles(), book.all_labels(), used)
                    self.assertTrue(plain_brings(alone.all_permits(), start, found[0], asked, "known"))
                    self.says(False, is_kept(alone, start, [asked]))
        self.assertGreater(min(kept.values()), 30)


class TestLots(WrapCase):
    def test_edges(self):
        for secrets in ([], [(0, ())]):
            self.assertEqual(telling_lots(BARE, [[]], secrets), [])
            self.assertEqual(keeping_lots(BARE, [[]], secrets), [[]])
            self.assertEqual(guards(BARE, [[]], secrets), [])
        self.assertEqual(telling_lots(BOOK, [], []), [])
        self.assertEqual(keeping_lots(BOOK, [], ()), [[]])
        self.assertEqual(guards(BOOK, [], []), PERMITS)
        self.assertEqual(telling_lots(BOOK, [], SECRETS * 4), TELLING)
        self.assertEqual(telling_lots(secrets=as_lists(SECRETS), start=(), book=BOOK), TELLING)
        self.assertEqual(keeping_lots(secrets=as_tuples(SECRETS), start=(), book=BOOK), KEEPING)
        self.assertEqual(telling_lots(BOOK, [], [("a", ()), ("d", ())]), TELLING)
        # A secret of a key that can be made only by one permit.
        book = Book(["a"], [], [("make", "a"), ("show", "a"), ("copy", "a", "a")])
        self.assertEqual(telling_lots(book, [["a"]], [("a", ())]), [[("make", "a"), ("show", "a")]])
        self.assertEqual(telling_lots(book, [["a"]], [("a", ()), (0, ())]), [[("show", "a")]])
        self.assertEqual(keeping_lots(book, [["a"]], [("a", ())]), [[("make", "a")], [("show", "a")]])
        self.assertEqual(guards(book, [["a"]], [("a", ())]), [("make", "a"), ("show", "a")])

    def test_is_one(self):
        for lot in all_lots(PERMITS):
            for order in (sorted(lot), tuple(sorted(lot)), as_lists(sorted(lot))):
                self.says(sorted(lot) in TELLING, is_telling_lot(BOOK, [], SECRETS, order))
                self.says(sorted(lot) in KEEPING, is_keeping_lot(thing=order, secrets=SECRETS, start=[], book=BOOK))
        self.says(True, is_keeping_lot(BOOK, [], [], []))
        self.says(False, is_telling_lot(BOOK, [], [], []))
        self.says(False, is_keeping_lot(BOOK, [], [], [MAKE]))
        wrong = [
            TELLING[0][::-1], [BRING, BRING, MAKE_D, WRAP], [BRING, MAKE_D, WRAP, None], [("bring", "d"), MAKE_D, WRAP], "lot", {BRING: 0},
            set(TELLING[0]), iter(TELLING[0]), Odd(), Hostile(), [Hostile()], [BRING, Hostile(), WRAP], TELLING, [TELLING[0]], ring(), None,
            KEEPING[0][::-1], [("make", "d", "d")], [("make", "d"), ("make", "d")], ["make", "d"],
        ]
        for thing in odd_things() + empties() + wrong:
            self.says(False, is_telling_lot(BOOK, [], SECRETS, thing))
            self.says(False, is_keeping_lot(BOOK, [], SECRETS, thing))

    def test_by_all_parts(self):
        sizes = {}
        for count in range(130):
            dice, book, start, secrets = some_lots(count)
            permits = set(book.all_permits())
            lots = all_lots(book.all_permits())
            tell = [lot for lot in lots if not plain_keeps(book, start, secrets, lot)]
            keep = [lot for lot in lots if plain_keeps(book, start, secrets, permits - lot)]
            telling, keeping = telling_lots(book, start, secrets), keeping_lots(book, start, secrets)
            self.assertEqual(telling, least_ones(tell))
            self.assertEqual(keeping, least_ones(keep))
            sizes[len(telling)] = sizes.get(len(telling), 0) + 1
            for lot in lots:
                self.says(sorted(lot) in telling, is_telling_lot(book, start, secrets, sorted(lot)))
                self.says(sorted(lot) in keeping, is_keeping_lot(book, start, secrets, sorted(lot)))
                self.assertEqual(lot in keep, all([lot & set(one) for one in telling]))
                self.assertEqual(lot in tell, all([lot & set(one) for one in keeping]))
            self.assertEqual(guards(book, start, secrets), [permit for permit in book.all_permits() if all([permit in one for one in telling])])
            self.assertEqual(guards(book, start, secrets), [permit for permit in book.all_permits() if {permit} in keep])
            self.assertEqual(least_meeting(book, dice.mixed(telling)), keeping)
            self.assertEqual(least_meeting(book, dice.mixed(keeping)), telling)
            self.assertIsNone(lots_fault(book, start, secrets, (telling, keeping)))
        self.assertGreater(len(sizes), 3)
        self.assertGreater(sum([sizes[size] for size in sizes if size > 1]), 8)


class TestMeeting(WrapCase):
    def test_edges(self):
        for lots, told in [
            ([], [[]]), ([[]], []), ([[BRING], []], []), ([[BRING]], [[BRING]]), ([[BRING, MAKE]], [[BRING], [MAKE]]),
            ([[BRING], [MAKE]], [[BRING, MAKE]]), ([[BRING], [BRING, MAKE]], [[BRING]]), ([[MAKE, OPEN], [MAKE, OPEN]], [[MAKE], [OPEN]]),
            ([[BRING, MAKE], [MAKE, OPEN]], [[BRING, OPEN], [MAKE]]), (TELLING, KEEPING), (KEEPING, TELLING),
        ]:
            for shape in (as_lists, as_tuples):
                self.assertEqual(least_meeting(lots=shape(lots), book=BOOK), told)
                self.assertEqual(least_meeting(BOOK, shape(lots[::-1])), told)

    def test_bad_lots(self):
        for thing in [None, "ab", "", 0, True, {}, {BRING: 0}, {BRING}, Odd(), Hostile(), iter(TELLING)]:
            self.raises(BadLots, 0, least_meeting, BOOK, thing)
        wrong = [thing for thing in odd_things() if not isinstance(thing, (list, tuple))]
        wrong += [[MAKE, BRING], [MAKE, MAKE], [("show", "a")], [MAKE, None], MAKE, [MAKE, Hostile()], [[MAKE]], ring(), [None], ["make"], [[]]]
        for thing in wrong:
            self.raises(BadLots, 2, least_meeting, BOOK, [[], [MAKE], thing, None])

    def test_by_all_parts(self):
        for count in range(150):
            dice = Dice(count)
            lots = [sorted(dice.part(PERMITS)) for _ in range(dice.number(5))]
            meeting = [lot for lot in all_lots(PERMITS) if all([lot & set(one) for one in lots])]
            told = least_meeting(BOOK, lots)
            self.assertEqual(told, least_ones(meeting))
            twice = least_meeting(BOOK, told)
            self.assertEqual(twice, least_ones({frozenset(lot) for lot in lots}))


class TestFault(WrapCase):
    def fault(self, telling, keeping):
        told = lots_fault(BOOK, [], SECRETS, (telling, keeping))
        for shape in (as_lists, as_tuples):
            self.assertEqual(lots_fault(thing=shape([telling, keeping]), secrets=shape(SECRETS), start=shape([]), book=BOOK), told)
        return told

    def test_each(self):
        self.assertIsNone(self.fault(TELLING, KEEPING))
        for telling, keeping, told in [
            (TELLING[::-1], KEEPING, ("telling", 1)), (TELLING[:1] * 2, KEEPING, ("telling", 1)), (KEEPING, TELLING, ("telling", 0)),
            ([TELLING[0], PERMITS], [], ("telling", 1)), ([[]], KEEPING, ("telling", 0)), (TELLING, KEEPING[1:], ("lacks", KEEPING[0])),
            (TELLING, KEEPING[:2], ("lacks", [MAKE_D])), (TELLING, [], ("lacks", KEEPING[0])), (TELLING[:1], KEEPING, ("lacks", [BRING])),
            (TELLING, KEEPING[:1] + [[MAKE, MAKE_D]], ("keeping", 1)), (TELLING, KEEPING[::-1], ("keeping", 1)), (TELLING, [[]], ("keeping", 0)),
            (TELLING, KEEPING + KEEPING[-1:], ("keeping", 4)), ([], KEEPING, ("lacks", [])), ([], [], ("lacks", [])), (TELLING, TELLING, ("keeping", 0)),
            (TELLING + [[WRAP]], [[]], ("telling", 2)), (TELLING[1:], KEEPING[:2], ("lacks", [MAKE])),
        ]:
            self.assertEqual(self.fault(telling, keeping), told)
        self.assertEqual(lots_fault(BOOK, [], [], ([], [[]])), None)
        self.assertEqual(lots_fault(BOOK, [], [], ([], [])), ("lacks", []))
        self.assertEqual(repr(lots_fault(BOOK, [], SECRETS, as_lists((TELLING, [])))), repr(("lacks", KEEPING[0])))

    def test_form(self):
        wrong = [
            (TELLING,), (TELLING, KEEPING, 0), (TELLING, None), (None, KEEPING), ("", []), ([], ""), (TELLING, {}), (Hostile(), []), ([], Hostile()),
            {0: TELLING, 1: KEEPING}, (iter([]), []), "ab", Odd(), ({}, {}), (set(), []),
        ]
        for thing in odd_things() + empties() + wrong:
            if isinstance(thing, (list, tuple)) and len(thing) == 2 and all([isinstance(part, (list, tuple)) for part in thing]):
                continue
            self.assertEqual(lots_fault(BOOK, [], SECRETS, thing), ("form", 0))
        for thing in odd_things() + [[MAKE, BRING], MAKE, [Hostile()]]:
            self.assertEqual(lots_fault(BOOK, [], SECRETS, (TELLING[:1] + [thing], [])), ("telling", 1))
            self.assertEqual(lots_fault(BOOK, [], SECRETS, (TELLING, KEEPING[:2] + [thing])), ("keeping", 2))

    def test_16_4(self):
        said = {}
        for count in range(110):
            dice, book, start, secrets = some_lots(count)
            telling, keeping = telling_lots(book, start, secrets), keeping_lots(book, start, secrets)
            every = [sorted(lot) for lot in all_lots(book.all_permits())]
            for _ in range(8):
                both = [list(telling), list(keeping)]
                for _ in range(1 + dice.number(2)):
                    part = dice.one(both)
                    if part and dice.number(2):
                        part.pop(dice.number(len(part)))
                    else:
                        part.insert(dice.number(len(part) + 1), dice.one(every))
                wanted = self.plain_fault(telling, keeping, both, book)
                self.assertEqual(lots_fault(book, start, secrets, both), wanted)
                self.assertEqual(wanted is None, both == [telling, keeping])
                said[wanted and wanted[0]] = said.get(wanted and wanted[0], 0) + 1
        for word in (None, "telling", "keeping", "lacks"):
            self.assertGreater(said[word], 20)

    def plain_fault(self, telling, keeping, both, book):
        for word, wanted, lots in (("telling", telling, both[0]), ("keeping", keeping, both[1])):
            for index, lot in enumerate(lots):
                if lot not in wanted or (index and lot <= lots[index - 1]):
                    return (word, index)
        meeting = least_ones([lot for lot in all_lots(book.all_permits()) if all([lot & set(one) for one in both[0]])])
        return ([("lacks", lot) for lot in meeting if lot not in both[1]] + [None])[0]


class TestLogsAndLots(WrapCase):
    def test_what_a_log_uses_has_a_lot_that_tells(self):
        told = 0
        for count in range(120):
            book, start, log = some_case(Dice(count), 12)
            house, _, _ = plain_log(book.all_permits(), start, log)
            if len(book.all_permits()) > 12:
                continue
            for asked in all_asked(book, start, 1):
                if asked[0] != "known" and keys_asked(log, asked) and plain_brings(book.all_permits(), start, log, asked, "known"):
                    used = permits_used(book, start, log)
                    self.assertTrue(any([set(lot) <= set(used) for lot in telling_lots(book, start, [asked])]))
                    told += 1
            self.assertEqual(len(plain_states(book)), len(book.all_roles()) + 1)
            self.assertIsNotNone(house)
        self.assertGreater(told, 10)
