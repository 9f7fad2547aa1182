"""11.4 to 11.6: logs led over by tables, behind another log."""

from tests.plain import plain_knows, plain_log, saturated, parts
from tests.plainwords import led_keys, plain_led_by, plain_reach, roots_in
from tests.samples import all_permits, some_case, some_log
from tests.tools import Dice, WrapCase, as_lists, as_tuples
from underwraps.books import Book
from underwraps.errors import BadTable
from underwraps.ledlogs import led_by
from underwraps.logs import log_behind, log_fault

BOOK = Book(["a", "d"], [], [("make", "a"), ("make", "d"), ("open", "a"), ("wrap", "a", "d")])
G, O = [(("given", number), ()) for number in range(4)], [(("own", number), ()) for number in range(4)]
M = [(("made", number), ()) for number in range(9)]
WIDE = Book(["a", "b"], ["x"], all_permits(["a", "b"], ["x"]))


class TestExample(WrapCase):
    def test_11_6(self):
        log = [("make", "d"), ("make", "a"), ("wrap", 3, 2)]
        told = led_by(BOOK, [["a", "d"]], [], log, {("made", 0): (("given", 0), ())})
        self.assertEqual(told[:2], ([("make", "a"), ("wrap", 2, 1)], [0, 1, 1, 2]))
        self.assertEqual(told[2], [G[0], M[0]])


class TestLedBy(WrapCase):
    def test_no_table_is_one_behind_another(self):
        log = [("make", "a"), ("copy", 1, "b"), ("wrap", 1, 0), ("bring", "b", O[3]), ("show", 2), ("bring", "a", M[0])]
        first = [("make", "b"), ("make", "b"), ("show", 0)]
        whole, places, keys = led_by(WIDE, [["a"]], first, log, {})
        self.assertEqual(whole, log_behind(WIDE, [["a"]], first, log))
        self.assertEqual((places, keys), ([0, 3, 4, 5, 6], [M[2]]))
        self.assertEqual(led_by(WIDE, [["a"]], first, [], {}), (first, [0], []))
        self.assertEqual(led_by(WIDE, [["a"]], [], log, {})[0], log)
        self.assertEqual(led_by(Book([], [], []), [[], []], (), (), {}), ([], [], []))

    def test_least_handles(self):
        start = [["a", "b"], ["b"]]
        first = [("copy", 0, "a"), ("copy", 2, "a"), ("copy", 2, "b"), ("make", "a")]
        log = [("copy", 0, "a"), ("copy", 3, "b"), ("make", "b"), ("make", "a"), ("wrap", 6, 2), ("show", 5)]
        first = first + [("copy", 5, "b"), ("derive", 2, "x", "a"), ("derive", 2, "x", "b"), ("derive", 2, "x", "b")]
        table = {("given", 0): (("given", 1), ("x",)), ("given", 1): G[0], ("made", 0): (("given", 1), ("x",)), ("made", 1): M[0]}
        whole, places, keys = led_by(WIDE, start, first, log, table)
        self.assertEqual(whole, first + [("copy", 8, "a"), ("copy", 11, "b"), ("wrap", 6, 1), ("show", 9)])
        self.assertEqual(places, [8, 9, 1, 11, 12, 9, 6])
        self.assertEqual(keys, [(("given", 1), ("x",)), M[0]])

    def test_labels_stand_behind(self):
        first = [("derive", 0, "x", "a"), ("show", 1)]
        far = (("given", 0), ("x",))
        log = [("bring", "a", (("own", 2), ("x",))), ("derive", 1, "x", "b"), ("seal", 0, ("under", (("own", 2), ()), (("own", 1), ("x",))))]
        whole, places, _ = led_by(WIDE, [["a"]], first, log, {("own", 2): far, ("own", 5): (("own", 6), ("x",))})
        self.assertEqual(whole, first + [
            ("bring", "a", (("given", 0), ("x", "x"))), ("derive", 2, "x", "b"),
            ("seal", 0, ("under", far, (("own", 1), ("x",)))),
        ])
        self.assertEqual(places, [0, 2, 3])

    def test_made_ones_that_stay_are_numbered_anew(self):
        log = [("make", "a"), ("make", "b"), ("make", "a"), ("show", 2), ("bring", "b", M[1]), ("wrap", 3, 1)]
        whole, places, keys = led_by(WIDE, [["a"]], [("make", "a")], log, {("made", 0): M[0]})
        self.assertEqual(whole, [("make", "a"), ("make", "b"), ("make", "a"), ("show", 2), ("bring", "b", M[1]), ("wrap", 3, 1)])
        self.assertEqual((places, keys), ([0, 1, 2, 3, 4], [M[0], M[1], M[2]]))
        whole, places, keys = led_by(WIDE, [["a"]], [("make", "a")], log, {("made", 0): G[0], ("made", 2): M[0]})
        self.assertEqual(whole, [("make", "a"), ("make", "b"), ("show", 2), ("bring", "b", M[1]), ("wrap", 1, 0)])
        self.assertEqual((places, keys), ([0, 0, 2, 1, 3], [G[0], M[1], M[0]]))

    def test_a_given_key_of_no_role(self):
        for key in (G[0], G[3], M[7], (("own", 3), ("x",)), (("given", 99), ("x",))):
            told = led_by(WIDE, [["a"], []], [], [("copy", 0, "b")], {("given", 1): key})
            self.assertEqual(told, ([("copy", 0, "b")], [0, 1], []))

    def test_lists_and_names(self):
        table = {("made", 0): (("given", 0), ())}
        log = [("make", "a"), ("copy", 1, "b")]
        for shape in (as_lists, as_tuples):
            told = led_by(table=shape(table), log=shape(log), first=shape([]), start=shape([["a"]]), book=WIDE)
            self.assertEqual(told, ([("copy", 0, "b")], [0, 0, 1], [G[0]]))
        self.assertEqual(table, {("made", 0): (("given", 0), ())})

    def test_bad_table(self):
        first, log = [("make", "a"), ("copy", 2, "b"), ("show", 2)], [("make", "b"), ("make", "a"), ("bring", "a", O[0])]
        for base, key, right in [
            (("made", 0), M[0], True), (("made", 0), G[0], False), (("made", 1), G[0], True), (("made", 1), G[1], False),
            (("made", 2), G[0], False), (("made", 0), M[1], False), (("made", 0), (("made", 0), ("x",)), False),
            (("given", 0), M[0], True), (("given", 1), M[0], True), (("given", 1), G[0], False), (("given", 2), M[0], False),
            (("own", 0), M[0], True), (("own", 0), (("made", 0), ("x",)), True), (("own", 0), G[0], False), (("own", 77), O[1], True),
        ]:
            for more in ({}, {("own", 9): O[9 % 4]}):
                table = {**more, base: key}
                if right:
                    self.assertIsNone(log_fault(WIDE, [["a"], ["b"]], led_by(WIDE, [["a"], ["b"]], first, log, table)[0]))
                else:
                    self.raises(BadTable, table, led_by, WIDE, [["a"], ["b"]], first, log, table)


def some_table(dice, book, start, first, log):
    """Return a right table of a few bases."""
    house, _, _ = plain_log(book.all_permits(), start, first)
    table = {}
    wanted = {("given", number): set(row) for number, row in enumerate(start)}
    wanted.update({("made", number): {role} for number, role in enumerate(roots_in(log))})
    keys = sorted({key for key, _ in house.handles})
    for base, roles in wanted.items():
        right = [key for key in keys if {(key, role) for role in roles} <= set(house.handles)]
        if right and dice.number(2):
            table[base] = dice.one(right)
    universe = {O[0], O[1]}.union(*[parts(thing) for thing in house.out])
    known = sorted([key for key in saturated(house.out, universe) if len(key) == 2])
    for number in range(2):
        if dice.number(2):
            table[("own", number)] = dice.one(known)
    return {base: table[base] for base in dice.mixed(table)}


class TestItHolds(WrapCase):
    def test_11_5(self):
        led = unlike = 0
        for count in range(260):
            dice = Dice(count)
            book, start, first = some_case(dice, 10)
            log = some_log(dice, book, start, 12)
            table = some_table(dice, book, start, first, log)
            whole, places, keys = told = led_by(book, start, first, log, table)
            self.assertEqual(told, plain_led_by(book, start, first, log, table))
            house, _, _ = plain_log(book.all_permits(), start, log)
            other, _, fault = plain_log(book.all_permits(), start, whole)
            self.assertIsNone(fault)
            self.assertIsNone(log_fault(book, start, whole))

            def over(key, whole=whole, keys=keys, table=table):
                base, word = key
                if base in table:
                    return (table[base][0], table[base][1] + word)
                return (keys[base[1]][0], keys[base[1]][1] + word) if base[0] == "made" else key

            for place, (key, role) in zip(places, house.handles):
                self.assertEqual(other.handles[place], (over(key), role))
            self.assertEqual(len(places), len(house.handles))
            known = [thing for thing in saturated(house.out, set().union(*[parts(thing) for thing in house.out]))]
            for thing in known:
                self.assertTrue(plain_knows(other.out, led_keys(thing, over)))
                led += 1
            unlike += any([place != number for number, place in enumerate(places)])
            self.assertEqual(len(whole), len(first) + len(log) - len([base for base in table if base[0] == "made"]))
        self.assertGreater(led, 300)
        self.assertGreater(unlike, 100)

    def test_who_has_more_lets_out_more(self):
        looked = 0
        for count in range(160):
            dice = Dice(count)
            book, start, first = some_case(dice, 12)
            house, _, _ = plain_log(book.all_permits(), start, first)
            made = roots_in(first)
            words = [()] + [(label,) for label in book.all_labels()]
            makes = [permit[1] for permit in book.all_permits() if permit[0] == "make"]
            for (base, u), role in house.handles:
                root = {"given": base[1], "own": "known", "made": made[base[1]] if base[0] == "made" else None}[base[0]]
                roles = {other for key, other in house.handles if key == (base, u)}
                less = [number for number, row in enumerate(start) if set(row) <= roles] + [role for role in makes if role in roles]
                for other in less:
                    for word in words:
                        if "known" in plain_reach(book, start, (other, word)):
                            self.assertIn("known", plain_reach(book, start, (root, u + word)))
                            looked += 1
        self.assertGreater(looked, 200)
