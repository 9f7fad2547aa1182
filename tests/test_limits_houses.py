"""2.3, 2.4, and the heads of 13 to 16: groups, tiers, levels, several houses, lots are answered in seconds at the limits."""

from tests.plainhouses import View, plain_houses
from tests.samples import all_permits, some_call
from tests.test_limits_states import LABELS, ROLES, widest
from tests.tools import Dice, WrapCase, as_lists
from underwraps.books import Book
from underwraps.errors import WrapError
from underwraps.groups import group_fault, group_table, groups, keeps_apart
from underwraps.joining import joined, joined_log, parted_log
from underwraps.levels import is_bar, is_levels, least_levels, shortest_bar
from underwraps.logs import log_fault, log_tells
from underwraps.lots import (
    guards, idle_permits, is_idle, is_keeping_lot, is_kept, is_telling_lot, keeping_lots, least_meeting, lots_fault,
    telling_lots, thinned_book,
)
from underwraps.machines import least_machine
from underwraps.settling import reach
from underwraps.several import Houses, houses_fault
from underwraps.sharing import apart, sharings
from underwraps.states import roots_of, states_of
from underwraps.tiers import finest_tiering, is_tiering, safe_roles, tiers_fault
from underwraps.togethers import together, wrapping


class TestGroups(WrapCase):
    def asked(self, dice, book, start):
        """Ask all of section 13; return how many groups the root with the most has."""
        table, most = self.in_seconds(group_table, book, start), 0
        self.assertIsNone(self.in_seconds(group_fault, book, start, as_lists(table)))
        for root, row in zip(roots_of(book, start), table[1]):
            self.assertEqual(self.in_seconds(groups, book, start, root), row)
            most = max(most, len(row))
            for states in [dice.mixed(group) for group in row if group] + [states_of(book)[::-1]]:
                told = self.in_seconds(together, book, start, root, states)
                kept = self.in_seconds(keeps_apart, book, start, root, states, table)
                self.assertEqual(told is None, kept)
                if told is not None and "known" in states:
                    self.says(True, log_tells(book, start, *told))
        for role in book.all_roles():
            self.in_seconds(wrapping, book, start, role)
        return most

    def test_widest_books(self):
        most = []
        for count in range(30):
            dice = Dice(count)
            words = [("derive",), ("derive", "make", "wrap", "unwrap"), ("derive", "copy", "open", "wrap", "make")][count % 3]
            permits = dice.mixed([permit for permit in all_permits(ROLES[:5], LABELS[:2]) if permit[0] in words])[:30]
            start = [sorted(dice.mixed(ROLES[:5])[:3]) for _ in range(4)]
            most.append(self.asked(dice, Book(ROLES[:5], LABELS[:2], permits), start))
        self.assertGreater(max(most), 1)

    def test_many_groups(self):
        # A key stands in some of five roles; by one label all move on, by the other one the first two of them are one.
        turn = [("derive", ROLES[at], "x", ROLES[(at + 1) % 5]) for at in range(5)]
        join = [("derive", ROLES[at], "y", ROLES[max(at, 1)]) for at in range(5)]
        for start in ([ROLES[:4]], [ROLES[:3]], [ROLES[:2], ROLES[:1], [ROLES[0], ROLES[2]]]):
            most = self.asked(Dice(1), Book(ROLES[:5], LABELS[:2], turn + join), start)
            self.assertGreater(most, 3)

    def test_somewhat_beyond(self):
        dice, book, start = widest(3, ("derive", "copy"))
        self.asked(dice, book, start)


class TestTiers(WrapCase):
    def test_widest_books(self):
        levels = bars = safe = 0
        for count in range(60):
            if count % 2:
                dice, book, start = widest(count)
            else:
                dice = Dice(count)
                height = {role: dice.number(4) for role in ROLES}
                permits = [permit for permit in all_permits(ROLES, LABELS) if self.keeps(height, permit)]
                book, start = Book(ROLES, LABELS, dice.mixed(permits)[:30]), [[role] for role in dice.mixed(ROLES)[:4]]
            tiering = self.in_seconds(finest_tiering, book, start)
            self.says(True, self.in_seconds(is_tiering, book, start, tiering))
            self.assertIsNone(self.in_seconds(tiers_fault, book, start, as_lists(tiering)))
            safe += len(self.in_seconds(safe_roles, book, start))
            least, bar = self.in_seconds(least_levels, book, start), self.in_seconds(shortest_bar, book, start)
            self.assertEqual(least is None, bar is not None)
            if least is None:
                self.says(True, self.in_seconds(is_bar, book, start, bar))
                self.assertLessEqual(len(bar), 7)
                bars += 1
            else:
                self.says(True, self.in_seconds(is_levels, book, start, least))
                levels += 1
        self.assertGreater(min(levels, bars), 15)
        self.assertGreater(safe, 40)

    def keeps(self, height, permit):
        """Tell whether a permit asks just for heights as they are."""
        word, r, s = permit[0], permit[1], permit[-1]
        return {
            "make": True, "bring": height[r] == 0, "show": height[r] == 0, "seal": height[r] == 1, "open": height[r] == 1,
        }.get(word, height[r] - height.get(s, 0) == (word in ("wrap", "unwrap")))

    def test_walks(self):
        book = Book(ROLES, LABELS, [("wrap", ROLES[at], ROLES[at + 1]) for at in range(5)] + [("copy", ROLES[5], ROLES[0])])
        bar = self.in_seconds(shortest_bar, book, [])
        self.assertEqual(len(bar), 6)
        self.says(True, self.in_seconds(is_bar, book, [], bar * 100))
        roles = ["r" + str(number) for number in range(10)]
        book = Book(roles, [], [("wrap", roles[at], roles[at + 1]) for at in range(9)] + [("copy", roles[9], roles[0])])
        self.assertEqual(len(self.in_seconds(shortest_bar, book, [])), 10)


def wide_houses(count, many=3):
    """Return (dice, books, starts): three houses of two roles, ten permits each, three labels, four given keys."""
    dice, books, starts = Dice(count), [], [[] for _ in range(many)]
    for house in range(many):
        roles = [["kek", "data"], ["kek", "wrapper"], ["a", "b2"]][house % 3]
        books.append(Book(roles, LABELS, dice.mixed(all_permits(roles, LABELS))[:10]))
    for _ in range(4):
        held = dice.mixed([(house, role) for house in range(many) for role in books[house].all_roles()])[:3]
        for house in range(many):
            starts[house].append(sorted([role for at, role in held if at == house]))
    return dice, books, starts


class TestHouses(WrapCase):
    def log(self, dice, books, starts, many):
        """Return a log of houses of so many calls."""
        houses, log = Houses(books, starts), []
        for _ in range(many * 60):
            house = dice.number(len(books))
            call = some_call(dice, books[house], View(houses, house))
            try:
                houses.call(house, call)
            except WrapError:
                continue
            log.append((house, call))
            if len(log) == many:
                break
        return log

    def test_logs(self):
        longest = 0
        for count in range(16):
            dice, books, starts = wide_houses(count)
            log = self.log(dice, books, starts, 30)
            longest = max(longest, len(log))
            self.assertIsNone(self.in_seconds(houses_fault, books, starts, log))
            self.assertIsNone(plain_houses(books, starts, log)[2])
            book, start = self.in_seconds(joined, books, starts)
            told = self.in_seconds(joined_log, books, starts, log)
            self.assertIsNone(log_fault(book, start, told))
            self.assertEqual(self.in_seconds(parted_log, books, starts, told), log)
        self.assertEqual(longest, 30)

    def test_sharings(self):
        lengths = {}
        for count in range(40):
            _, books, starts = wide_houses(count)
            shared = [key for key in range(4) if len([start for start in starts if start[key]]) > 1]
            self.assertEqual(len(self.in_seconds(apart, books, starts, shared)), 3)
            book, start = joined(books, starts)
            for house in range(3):
                for root in roots_of(books[house], starts[house]):
                    if root != "known" and (isinstance(root, str) or starts[house][root]):
                        told = self.in_seconds(sharings, books, starts, house, (root, ("x",) * 10))
                        led = root if isinstance(root, int) else root + str(house)
                        self.assertEqual(told != [], "known" in reach(book, start, (led, ("x",) * 10)))
                        lengths[len(told)] = lengths.get(len(told), 0) + 1
        self.assertGreater(len(lengths), 1)

    def test_ten_houses(self):
        _, books, starts = wide_houses(7, 10)
        book, start = self.in_seconds(joined, books, starts)
        self.assertEqual((len(book.all_roles()), len(start)), (20, 4))
        self.assertEqual(len(self.in_seconds(apart, books, starts, [])), 10)


class TestLots(WrapCase):
    def test_widest_books(self):
        for count in range(6):
            _, book, start = widest(count)
            idle = self.in_seconds(idle_permits, book, start)
            for permit in book.all_permits()[:6]:
                self.says(permit in idle, self.in_seconds(is_idle, book, start, permit))
            left = self.in_seconds(thinned_book, book, start)
            self.assertEqual(least_machine(left, start), least_machine(book, start))
            out = ["known" in reach(book, start, asked) for asked in [(0, ("x",) * 10), (1, ())]]
            self.says(not any(out), self.in_seconds(is_kept, book, start, [(0, ("x",) * 10), (1, ())]))

    def lots(self, book, start, secrets):
        """Ask all of 16.3 to 16.5; return how many lots there are."""
        telling, keeping = self.in_seconds(telling_lots, book, start, secrets), self.in_seconds(keeping_lots, book, start, secrets)
        self.assertIsNone(self.in_seconds(lots_fault, book, start, secrets, (telling, keeping)))
        self.assertEqual(self.in_seconds(least_meeting, book, telling), keeping)
        self.assertEqual(self.in_seconds(least_meeting, book, keeping), telling)
        self.assertTrue(all([self.in_seconds(is_telling_lot, book, start, secrets, lot) for lot in telling]))
        self.assertTrue(all([self.in_seconds(is_keeping_lot, book, start, secrets, lot) for lot in keeping]))
        every = [permit for permit in book.all_permits() if all([permit in lot for lot in telling])]
        self.assertEqual(self.in_seconds(guards, book, start, secrets), every)
        return len(telling) + len(keeping)

    def test_nine_permits_four_secrets(self):
        most = []
        for count in range(40):
            dice = Dice(count)
            words = ("make", "wrap", "unwrap", "open", "copy", "show", "derive")
            permits = dice.mixed([permit for permit in all_permits(ROLES[:3], LABELS[:1]) if permit[0] in words])[:9]
            start = [[role] for role in ROLES[:3]]
            most.append(self.lots(Book(ROLES[:3], LABELS[:1], permits), start, [(0, ()), (1, ()), (2, ()), (0, ("x",))]))
        self.assertGreater(max(most), 10)

    def test_many_ways(self):
        # Three roads of three permits each: any one of them tells, one of each keeps.
        copies = [("copy", "a", way + str(at)) if at == 0 else ("copy", way + str(at - 1), way + str(at)) for way in "pqr" for at in range(2)]
        shows = [("show", way + "1") for way in "pqr"]
        book = Book(["a"] + [way + str(at) for way in "pqr" for at in range(2)], [], copies + shows)
        self.assertEqual(self.lots(book, [["a"]], [(0, ())]), 3 + 27)
        # Somewhat beyond: twelve permits.
        more = Book(book.all_roles() + ["s0", "s1"], [], copies + shows + [("copy", "a", "s0"), ("copy", "s0", "s1"), ("show", "s1")])
        self.assertEqual(self.lots(more, [["a"]], [(0, ())]), 4 + 81)
