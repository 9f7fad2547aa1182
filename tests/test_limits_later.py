"""2.3, 2.4, and the heads of 16 to 19: prices, two books, told keys, custodies are answered in seconds at the limits."""

from tests.plain import plain_log
from tests.plaincustody import plain_custody_least, plain_custody_log
from tests.samples import all_permits
from tests.samples_custody import some_custody_log
from tests.test_limits_states import LABELS, ROLES, widest
from tests.test_twobooks import two_roots
from tests.tools import Dice, WrapCase, as_lists
from underwraps.books import Book
from underwraps.custodies import custodians, is_custody
from underwraps.custodylogs import custody_fault, custody_played
from underwraps.custodymachines import custody_lack, custody_leads, custody_machine
from underwraps.felling import felling_log
from underwraps.lotprices import barring_tree, cheapest_lot, is_barring
from underwraps.lots import keeping_lots
from underwraps.shuthouses import beneath, fallen_handles, falls_shut, is_shelter, known_shut, shelter
from underwraps.states import roots_of, states_of
from underwraps.toldkeys import falls_running, felling_keys, heads, told_book
from underwraps.twobooks import (
    both_books, compared, first_more, is_cover, is_parting, only_together, paired_rows, parting, parting_key,
)

NAMES = ["ann", "bob", "cyd", "dan", "eve", "fay"]


class TestPrices(WrapCase):
    def asked(self, book, start, secrets, prices):
        """Ask all of 16.6; return how many lots keep, and of how many permits the cheapest one is."""
        price, lot = self.in_seconds(cheapest_lot, book, start, secrets, prices)
        tree = self.in_seconds(barring_tree, book, start, secrets, prices)
        self.says(True, self.in_seconds(is_barring, book, start, secrets, prices, price, as_lists(tree)))
        self.says(False, self.in_seconds(is_barring, book, start, secrets, prices, price + 1, tree))
        return len(keeping_lots(book, start, secrets)), len(lot)

    def test_nine_permits(self):
        sizes = []
        for count in range(24):
            dice, roles = Dice(count), ROLES[:3]
            shows = [("show", role) for role in roles] + [("copy", r, s) for r in roles for s in roles if r != s]
            words = [shows, all_permits(ROLES, LABELS[:1])][count % 2]
            book, start = Book(ROLES, LABELS, dice.mixed(words)[:9]), [sorted(dice.mixed(roles)[:1 + count % 3]) for _ in range(4)]
            secrets = [(at, ()) for at in range(4)] if count % 2 == 0 else [(at, tuple(dice.some(LABELS[:1], 1))) for at in range(4)]
            sizes.append(self.asked(book, start, secrets, {permit: dice.number(1001) for permit in book.all_permits()}))
        self.assertGreater(max([many for many, _ in sizes]), 3)
        self.assertGreater(max([size for _, size in sizes]), 2)

    def test_long_ways_down(self):
        # Each of three keys comes out by two ways, over roles that others come out by, too.
        book = Book(ROLES, [], [
            ("copy", ROLES[at], ROLES[3 + later]) for at in range(3) for later in (at, (at + 1) % 3)] + [("show", role) for role in ROLES[3:]])
        start, secrets, most = [[ROLES[0]], [ROLES[1]], [ROLES[2]], []], [(0, ()), (1, ()), (2, ()), (3, ())], []
        for prices in (lambda at: 1, lambda at: at, lambda at: at % 2, lambda at: 1000):
            most.append(self.asked(book, start, secrets, {permit: prices(at) for at, permit in enumerate(book.all_permits())}))
        self.assertEqual(len(book.all_permits()), 9)
        self.assertGreater(min([many for many, _ in most]), 7)


class TestTwoBooks(WrapCase):
    def asked(self, book, second, start):
        """Ask all of section 17."""
        told = self.in_seconds(parting, book, second, start)
        word = self.in_seconds(compared, book, second, start)
        self.assertEqual(told is None, word in ("alike", "less"))
        self.assertEqual(told and told[0], self.in_seconds(first_more, book, second, start))
        self.in_seconds(parting_key, book, second, start)
        cover = [self.in_seconds(paired_rows, book, second, start, root) for root in two_roots(book, second, start)]
        self.says(told is None, self.in_seconds(is_cover, book, second, start, as_lists(cover)))
        if told is not None:
            self.says(True, self.in_seconds(is_parting, book, second, start, as_lists(told)))
        self.in_seconds(only_together, book, second, start)
        self.in_seconds(both_books, book, second)
        return max([len(pairs) for pairs in cover])

    def test_widest_books(self):
        wide = []
        for count in range(16):
            words = [("derive", "show"), ("derive", "make", "show"), ("make", "wrap", "unwrap", "derive", "open"), None][count % 4]
            dice, book, start = widest(count) if words is None else widest(count, words)
            _, second, _ = widest(count + 100) if words is None else widest(count + 100, words)
            if count % 3 == 0:
                second = Book(ROLES, LABELS, dice.mixed(book.all_permits())[:28])
            wide.append(self.asked(book, second, start))
            self.asked(book, book, start)
        self.assertGreater(max(wide), 5)

    def test_two_wheels(self):
        # By one label five roles move on, by others the first of them is the second one, or comes out.
        turn = [("derive", ROLES[1 + at], "x", ROLES[1 + (at + 1) % 5]) for at in range(5)]
        back = [("derive", ROLES[1 + at], "x", ROLES[1 + (at + 2) % 5]) for at in range(5)]
        join = [("derive", ROLES[max(at, 2)] if at else ROLES[1], "y", ROLES[max(at, 2)]) for at in (0, 2, 3, 4, 5)]
        out = [("derive", ROLES[1], "z", ROLES[0])] + [("derive", role, "z", role) for role in ROLES[2:]] + [("show", ROLES[0])]
        start = [ROLES[1:], ROLES[1:4], ROLES[2:3], ROLES[3:]]
        book, second = Book(ROLES, LABELS, turn + join + out), Book(ROLES, LABELS, back + join + out)
        self.assertGreater(self.asked(book, second, start), 300)
        self.assertGreater(self.asked(second, book, start), 300)


class TestTold(WrapCase):
    def test_widest_books(self):
        deep = 0
        for count in range(30):
            words = [("make", "wrap", "unwrap", "derive", "seal"), ("wrap", "derive", "copy", "make"), ("wrap", "unwrap", "copy", "open", "make")][count % 3]
            dice, book, start = widest(count, words)
            if count % 2:
                book = Book(ROLES, LABELS, dice.mixed(book.all_permits())[:12])
            self.assertEqual(len(self.in_seconds(heads, book, start)) <= 4, True)
            for lot in ([], [0], [1, 3], [0, 1, 2, 3]):
                self.in_seconds(told_book, book, start, lot, "new")
                roles = self.in_seconds(beneath, book, start, lot)
                for root in roots_of(book, start):
                    asked = (root, tuple(dice.some(LABELS, 10)))
                    self.in_seconds(felling_keys, book, start, asked)
                    running = self.in_seconds(falls_running, book, start, lot, asked)
                    shut = self.in_seconds(falls_shut, book, start, lot, asked)
                    self.assertTrue(running or not shut)
                    kept, told = self.in_seconds(shelter, book, start, lot, asked), self.in_seconds(felling_log, book, start, lot, asked)
                    self.assertEqual((kept is None, told is None), (shut, not shut))
                    if kept:
                        self.says(True, self.in_seconds(is_shelter, book, start, lot, asked, as_lists(kept)))
                        continue
                    log, key = told
                    self.says(True, self.in_seconds(known_shut, book, start, log, lot, key))
                    self.in_seconds(fallen_handles, book, start, log, lot)
                    deep += len(roles) > 1 and len(log) > 3
        self.assertGreater(deep, 10)

    def test_a_long_chain(self):
        # Each role lies beneath the one ahead of it, by words of several labels and one key kept for each.
        roles = ROLES
        derives = [("derive", roles[at], label, roles[(at + 1) % 6]) for at, label in enumerate("xyzxyz")]
        book = Book(roles, LABELS, derives + [("wrap", roles[5], roles[0]), ("wrap", roles[3], roles[2]), ("make", roles[1]), ("copy", roles[1], roles[0])])
        start = [[roles[0]], [roles[2]]]
        told = felling_log(book, start, [0], (1, ()))
        self.assertIsNotNone(told)
        _, _, fault = plain_log(book.all_permits(), start, told[0])
        self.assertIsNone(fault)


class TestCustodies(WrapCase):
    def widest(self, count):
        dice, book, start = widest(count, [("make", "wrap", "unwrap", "derive"), ("derive", "make", "open", "wrap"), ("wrap", "derive")][count % 3])
        pairs = dice.mixed([(role, name) for role in ROLES for name in NAMES])[:10]
        return dice, book, start, (1 + count % 4, pairs, dice.mixed(ROLES)[:4])

    def test_widest_books(self):
        most = []
        for count in range(24):
            dice, book, start, custody = self.widest(count)
            names = self.in_seconds(custodians, book, as_lists(custody))
            self.says(True, self.in_seconds(is_custody, book, custody))
            tellers = [[], names, dice.part(names)][count % 3]
            machine = self.in_seconds(custody_machine, book, start, custody, tellers)
            self.assertIsNone(self.in_seconds(custody_lack, book, start, custody, tellers, as_lists(machine)))
            self.assertEqual(machine, plain_custody_least(book, start, custody, tellers))
            most.append(len(machine[1]))
            every = [list(states_of(book)[at:]) for at in range(8)]
            self.in_seconds(custody_lack, book, start, custody, tellers, ([], every))
            for root in roots_of(book, start):
                for many in (0, 10, 30):
                    led = self.in_seconds(custody_leads, book, start, custody, tellers, machine[0], (root, dice.some(LABELS, many)))
                    self.assertIn(led, machine[1])
        self.assertGreater(max(most), 12)

    def test_long_words_and_deep_things(self):
        book = Book(["a", "k"], LABELS, [("make", "k"), ("seal", "k"), ("open", "a"), ("derive", "k", "x", "k"), ("bring", "k")])
        custody = (3, [("k", name) for name in NAMES], ["a", "k"])
        made, own = (("made", 0), ()), (("own", 1), ("x", "y", "z") * 10)
        thing = own
        for at in range(30):
            thing = ("under", (("own", at), ("z",) * 30), thing)
        log = [("make", "k")] + [("derive", at, "x", "k") for at in range(30)]
        log += [("part", 30, name) for name in NAMES[:3]] + [("join", (("made", 0), ("x",) * 30), "a")]
        log += [("seal", 30, thing), ("open", 31, ("under", (("made", 0), ("x",) * 30), thing)), ("bring", "k", own), ("join", own, "a")]
        for tellers in (NAMES, NAMES[:3]):
            self.assertIsNone(self.in_seconds(custody_fault, book, [], custody, tellers, as_lists(log)))
            handles, keys, holders = self.in_seconds(custody_played, book, [], custody, tellers, log)
            self.assertEqual((handles[-1], keys, holders), ((own, "a"), [(made[0], ("x",) * 30)], {(made[0], ("x",) * 30): NAMES[:3]}))
        self.assertEqual(custody_fault(book, [], custody, NAMES[:2], log), (len(log) - 1, "need"))

    def test_long_logs(self):
        for count in range(6):
            dice, book, start, custody = self.widest(count)
            tellers = dice.part(custodians(book, custody))
            log, _ = some_custody_log(dice, book, start, custody, tellers, 60)
            self.assertIsNone(self.in_seconds(custody_fault, book, start, custody, tellers, log))
            house, fault = plain_custody_log(book.all_permits(), start, custody, tellers, log)
            handles, _, holders = self.in_seconds(custody_played, book, start, custody, tellers, log)
            self.assertEqual((handles, holders, fault), (house.handles, house.holders(), None))
