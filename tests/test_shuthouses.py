"""18.3 to 18.7: keys told when the house is shut, what is beneath, felling logs, shelters."""

from tests.each import NO_ASKED
from tests.plain import plain_knows, plain_log
from tests.plainrules import all_asked, all_pairs, all_ties, plain_closed, plain_leads, plain_moves
from tests.plaintiers import all_lots
from tests.plainwords import all_logs, keys_asked, plain_least
from tests.samples import all_permits, some_case
from tests.test_toldkeys import BARE, BOOK, NO_LOTS, START, some_told
from tests.tools import Dice, Hostile, Odd, WrapCase, as_lists, as_tuples, empties, odd_things
from underwraps.books import Book
from underwraps.errors import BadAsked, BadLog, BadThing
from underwraps.felling import felling_log
from underwraps.machines import grown, least_machine
from underwraps.refusals import BadLot
from underwraps.shuthouses import beneath, fallen_handles, falls_shut, is_shelter, known_shut, shelter

MORE = Book(["kek", "s", "top"], [], BOOK.all_permits() + [("wrap", "kek", "s")])
G = [(("given", number), ()) for number in range(3)]


def told_keys(lot):
    return [(("given", at), ()) for at in lot]


def plain_falls_by(book, start, log, lot, asked):
    """Tell whether a key of an asked key is known behind a log, the keys of a lot told, by 18.3."""
    house, _, fault = plain_log(book.all_permits(), start, log)
    return fault is None and any([plain_knows(house.out + told_keys(lot), key) for key in keys_asked(log, asked)])


def comes_to(book, ties):
    """Return a dict from each state to the set of those to which it comes, by 18.4."""
    steps = {(p, q) for p, _, q in plain_moves(book)} | set(ties)
    found = {}
    for state in ["known", *book.all_roles()]:
        there = {state}
        while {q for p, q in steps if p in there} - there:
            there |= {q for p, q in steps if p in there}
        found[state] = there
    return found


def plain_beneath(book, start, lot, ties, pairs, roles=()):
    """Return the roles that a lot and roles beneath it want, again and again, by 18.4."""
    come, wraps = comes_to(book, ties), [permit[1:] for permit in book.all_permits() if permit[0] == "wrap"]
    found = set(roles)
    while True:
        begun = {role for at in lot for role in start[at]} | {p for q, p in pairs if q in found}
        more = {s for r, s in wraps for p in begun if r in come[p]} - found
        if not more:
            return sorted(found)
        found |= more


def plain_sheltered(book, start, lot, asked, ties, roles):
    """Tell whether a machine's ties and roles keep an asked key, by 18.5."""
    root, word = asked
    led = [plain_leads(book, start, ties, (root, word[:many])) for many in range(len(word) + 1)]
    return root not in lot and "known" not in led[-1] and not any([states & set(roles) for states in led])


class TestExample(WrapCase):
    def test_18_7(self):
        self.says(False, falls_shut(BOOK, START, [0], (1, ())))
        self.assertEqual(beneath(BOOK, START, [0]), [])
        self.says(True, falls_shut(MORE, START, [0], (1, ())))
        self.assertEqual(beneath(MORE, START, [0]), ["s"])
        self.assertEqual(felling_log(MORE, START, [0], (1, ())), ([("wrap", 0, 1)], G[1]))
        self.assertIsNone(felling_log(BOOK, START, [0], (1, ())))
        self.assertEqual(shelter(BOOK, START, [0], (1, ())), (least_machine(BOOK, START), []))
        self.assertIsNone(shelter(MORE, START, [0], (1, ())))


class TestForms(WrapCase):
    def test_lists_and_names(self):
        log = [("wrap", 0, 1)]
        for shape in (as_lists, as_tuples):
            start, lot, asked, logs = shape(START), shape([0]), shape((1, ())), shape(log)
            self.says(True, known_shut(thing=shape(G[1]), lot=lot, log=logs, start=start, book=MORE))
            self.assertEqual(repr(fallen_handles(lot=lot, log=logs, start=start, book=MORE)), "[0, 1]")
            self.says(True, falls_shut(asked=asked, lot=lot, start=start, book=MORE))
            self.assertEqual(repr(beneath(lot=lot, start=start, book=MORE)), "['s']")
            self.assertEqual(repr(felling_log(asked=asked, lot=lot, start=start, book=MORE)), "([('wrap', 0, 1)], (('given', 1), ()))")
            found = shelter(asked=asked, lot=lot, start=start, book=BOOK)
            self.assertEqual(repr(found), repr((least_machine(BOOK, START), [])))
            self.says(True, is_shelter(thing=shape(found), asked=asked, lot=lot, start=start, book=BOOK))

    def test_edges(self):
        own = (("own", 3), ())
        self.says(True, known_shut(BARE, [], [], [], own))
        self.says(False, known_shut(BARE, [[]], [], [], G[0]))
        self.says(True, known_shut(BARE, [[]], [], [0], ("under", G[0], own)))
        self.assertEqual(fallen_handles(BARE, [[]], [], [0]), [])
        self.says(True, falls_shut(BARE, [], [], ("known", ())))
        self.says(False, falls_shut(BARE, [[]], [], (0, ())))
        self.says(True, falls_shut(BARE, [[]], [0], (0, ())))
        self.assertEqual(beneath(BARE, [], []), [])
        self.assertEqual(felling_log(BARE, [], [], ("known", ())), ([], (("own", 0), ())))
        self.assertEqual(felling_log(BARE, [[], []], [1], (1, ())), ([], G[1]))
        self.assertIsNone(felling_log(BARE, [[], []], [1], (0, ())))
        self.assertEqual(shelter(BARE, [[]], [], (0, ())), (([], [("known", "known")]), []))
        self.assertIsNone(shelter(BARE, [[]], [0], (0, ())))
        self.assertIsNone(shelter(BARE, [[]], [], ("known", ())))
        x = Book([], ["x"], [])
        self.assertEqual(felling_log(x, [[]], [0], (0, ("x", "x"))), ([], (("given", 0), ("x", "x"))))
        self.assertEqual(felling_log(x, [[]], [], ("known", ("x",)))[1][1], ("x",))

    def test_behind_what_is_beneath(self):
        book = Book(["k", "s", "t"], ["x", "y"], [("wrap", "k", "s"), ("derive", "t", "y", "s"), ("make", "t")])
        for asked, falls in [(("t", ()), False), (("t", ("y",)), True), (("t", ("y", "x")), True), (("t", ("x", "y")), False), ((0, ("x",)), True)]:
            self.says(falls, falls_shut(book, [["k"]], [0], asked))
            told = felling_log(book, [["k"]], [0], asked)
            self.assertEqual(told is not None, falls)
            if falls:
                self.assertEqual(told[1][1], asked[1])
                self.says(True, plain_knows(plain_log(book.all_permits(), [["k"]], told[0])[0].out + told_keys([0]), told[1]))

    def test_a_chain(self):
        book = Book(["a", "b", "c", "d", "e"], ["x"], [
            ("derive", "a", "x", "b"), ("wrap", "b", "c"), ("copy", "d", "c"), ("copy", "d", "e"), ("make", "d"), ("wrap", "e", "a"),
        ])
        start = [["a"], ["a"]]
        self.assertEqual(beneath(book, start, [0]), ["a", "c"])
        log, key = felling_log(book, start, [0], (1, ()))
        self.assertEqual(key, G[1])
        house, _, fault = plain_log(book.all_permits(), start, log)
        self.assertIsNone(fault)
        self.says(True, plain_knows(house.out + [G[0]], key))
        self.says(False, plain_knows(house.out, key))
        # No key may be in both: what lies there opens nothing.
        self.assertEqual(beneath(Book(book.all_roles(), ["x"], [permit for permit in book.all_permits() if permit != ("make", "d")]), start, [0]), ["c"])


    def test_a_chain_by_a_key_that_is_led_itself(self):
        book = Book(["k", "q", "s", "w", "z"], [], [
            ("make", "z"), ("make", "w"), ("wrap", "w", "z"), ("unwrap", "w", "q"), ("wrap", "k", "q"), ("wrap", "z", "s"),
        ])
        start = [["k"], ["s"]]
        self.assertEqual(beneath(book, start, [0]), ["q", "s"])
        log, key = felling_log(book, start, [0], (1, ()))
        house, _, fault = plain_log(book.all_permits(), start, log)
        self.assertEqual((fault, key), (None, G[1]))
        self.says(True, plain_knows(house.out + [G[0]], key))
        self.says(False, plain_knows(house.out, key))


class TestWrong(WrapCase):
    def test_bad_log(self):
        for thing in [None, "ab", "", 0, True, {}, Hostile(), iter([])]:
            self.raises(BadLog, 0, known_shut, BOOK, START, thing, Hostile(), Hostile())
            self.raises(BadLog, 0, fallen_handles, BOOK, START, thing, Hostile())
        for thing in odd_things() + [("wrap", 1, 0), ("wrap", 0, 9), ("part", 0, "ann")]:
            self.raises(BadLog, 1, known_shut, MORE, START, [("wrap", 0, 1), thing, None], Hostile(), G[0])
            self.raises(BadLog, 0, fallen_handles, BOOK, START, [thing], Hostile())

    def test_bad_lot(self):
        for thing in NO_LOTS:
            self.raises(BadLot, thing, known_shut, BOOK, START, [], thing, Hostile())
            self.raises(BadLot, thing, fallen_handles, BOOK, START, [], thing)
            self.raises(BadLot, thing, beneath, BOOK, START, thing)
            for call in (falls_shut, felling_log, shelter):
                self.raises(BadLot, thing, call, BOOK, START, thing, Hostile())
            self.raises(BadLot, thing, is_shelter, BOOK, START, thing, Hostile(), Hostile())

    def test_bad_thing_and_asked(self):
        for thing in odd_things() + empties() + [(("given", 0), ("x",)), ("under", G[0])]:
            self.raises(BadThing, thing, known_shut, BOOK, START, [], [0], thing)
        for thing in NO_ASKED + [(2, ())]:
            for call in (falls_shut, felling_log, shelter):
                self.raises(BadAsked, thing, call, BOOK, START, [0], thing)
            self.raises(BadAsked, thing, is_shelter, BOOK, START, [0], thing, Hostile())


class TestKnownShut(WrapCase):
    def test_18_3(self):
        said = {True: 0, False: 0}
        for count in range(110):
            book, start, log = some_case(Dice(count), 10)
            house, _, _ = plain_log(book.all_permits(), start, log)
            for lot in [sorted(lot) for lot in all_lots(range(len(start)))]:
                had = house.out + told_keys(lot)
                fallen = [at for at, (key, _) in enumerate(house.handles) if plain_knows(had, key)]
                self.assertEqual(fallen_handles(book, start, log, lot), fallen)
                for thing in set(house.out) | {key for key, _ in house.handles} | {("under", key, key) for key, _ in house.handles} | set(G):
                    wanted = plain_knows(had, thing)
                    self.says(wanted, known_shut(book, start, log, lot, thing))
                    said[wanted] += 1
        self.assertGreater(min(said.values()), 200)

    def test_calls_change_nothing(self):
        log = [("wrap", 0, 1)]
        for _ in range(2):
            self.says(True, known_shut(MORE, START, log, [0], G[1]))
            self.says(False, known_shut(MORE, START, log, [], G[1]))
            self.says(False, known_shut(MORE, START, [], [0], G[1]))


class TestShut(WrapCase):
    def test_18_4_by_all_logs(self):
        """What falls shut by some log does so by the one that is told; what does not falls by none of all short ones."""
        fell = kept = 0
        for count in range(60):
            dice = Dice(count)
            roles, labels = ["a", "b"][:1 + dice.number(2)], ["x"][:dice.number(2)]
            every = [permit for permit in all_permits(roles, labels) if permit[0] in ("wrap", "unwrap", "make", "derive", "copy")]
            book, start = Book(roles, labels, sorted(set(dice.some(every, 3)))), [[role] for role in roles]
            logs = [(log, house.out) for log, house in all_logs(book, start, 2)]
            for lot in [sorted(lot) for lot in all_lots(range(len(start)))]:
                for asked in all_asked(book, start, 1):
                    told = felling_log(book, start, lot, asked)
                    self.says(told is not None, falls_shut(book, start, lot, asked))
                    if told is not None:
                        log, key = told
                        self.says(True, plain_falls_by(book, start, log, lot, asked))
                        self.assertIn(key, keys_asked(log, asked))
                        fell += 1
                        continue
                    keys = told_keys(lot)
                    for log, out in logs:
                        self.assertFalse(any([plain_knows(out + keys, key) for key in keys_asked(log, asked)]))
                    kept += 1
        self.assertGreater(min(fell, kept), 80)

    def test_18_4_and_18_5(self):
        fell = deep = 0
        for count in range(260):
            dice, book, start = some_told(count)
            ties, pairs = plain_least(book, start)
            lot = [at for at in range(len(start)) if dice.number(2)]
            roles = plain_beneath(book, start, lot, ties, pairs)
            self.assertEqual(beneath(book, start, lot), roles)
            for asked in all_asked(book, start, 2):
                kept = plain_sheltered(book, start, lot, asked, ties, roles)
                self.says(not kept, falls_shut(book, start, lot, asked))
                told, found = felling_log(book, start, lot, asked), shelter(book, start, lot, asked)
                self.assertEqual(found, (least_machine(book, start), roles) if kept else None)
                self.assertEqual(told is None, kept)
                if kept:
                    self.says(True, is_shelter(book, start, lot, asked, found))
                    continue
                log, key = told
                house, _, fault = plain_log(book.all_permits(), start, log)
                self.assertIsNone(fault)
                self.assertTrue(plain_knows(house.out + told_keys(lot), key))
                self.assertIn(key, keys_asked(log, asked))
                fell += 1
                deep += asked[0] not in lot and "known" not in plain_leads(book, start, ties, asked)
        self.assertGreater(fell, 500)
        self.assertGreater(deep, 60)


class TestShelters(WrapCase):
    def test_any_closed_machine(self):
        said = {True: 0, False: 0}
        for count in range(160):
            dice, book, start = some_told(count)
            roles = book.all_roles()
            for _ in range(8):
                ties = [tie for tie in all_ties(book) if dice.number(8) == 0]
                pairs = [pair for pair in all_pairs(book) if dice.number(8) == 0]
                machine = dice.one([grown(book, start, (ties, pairs)), least_machine(book, start), (ties, pairs)])
                lot = [at for at in range(len(start)) if dice.number(2)]
                some = plain_beneath(book, start, lot, *machine, dice.part(roles) if dice.number(2) else [])
                some = dice.one([some, some, dice.part(some)])
                asked = dice.one(all_asked(book, start, 1))
                wanted = (
                    plain_closed(book, start, *machine) and plain_beneath(book, start, lot, *machine, some) == sorted(some)
                    and plain_sheltered(book, start, lot, asked, machine[0], some)
                )
                for shape in (as_lists, as_tuples):
                    self.says(wanted, is_shelter(book, start, lot, asked, shape((machine, sorted(some)))))
                self.says(wanted, is_shelter(book, start, lot, asked, ((machine[0][::-1], machine[1][::-1]), sorted(some))))
                self.assertFalse(wanted and falls_shut(book, start, lot, asked))
                said[wanted] += 1
        self.assertGreater(min(said.values()), 150)

    def test_small_ones(self):
        machine, roles = shelter(BOOK, START, [0], (1, ()))
        for paper, wanted in [
            ((machine, []), True), ((machine, ["kek"]), True), ((machine, ["kek", "top"]), True), ((machine, ["top", "kek"]), False),
            ((machine, ["kek", "kek"]), False), ((machine, ["s"]), False), ((machine, ["known"]), False), ((machine, ["q"]), False),
            ((machine, "s"), False), ((machine, None), False), ((machine, {}), False), ((machine,), False), ((machine, [], 0), False),
            (([], []), False), ((([], []), []), False), ((machine, [Hostile()]), False), ((Hostile(), []), False), ((machine, Hostile()), False),
            ((machine, ["top"]), True), ([machine, ()], True), ((machine, [None]), False),
        ]:
            self.says(wanted, is_shelter(BOOK, START, [0], (1, ()), paper))
        self.says(False, is_shelter(BOOK, START, [1], (1, ()), (machine, roles)))
        self.says(False, is_shelter(BOOK, START, [], ("known", ()), (machine, [])))
        self.says(False, is_shelter(MORE, START, [0], (1, ()), (least_machine(MORE, START), [])))
        self.says(True, is_shelter(MORE, START, [0], ("known", ()), (least_machine(MORE, START), ["s"])) is False)

    def test_any_object(self):
        for thing in odd_things() + empties() + [None, "", {}, Odd(), iter([])]:
            self.says(False, is_shelter(BOOK, START, [0], (1, ()), thing))
