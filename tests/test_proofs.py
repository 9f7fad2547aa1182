"""10.1, 10.2, 10.6: proofs, judged row by row and step by step, what a row says, told ones."""

from tests.plainrules import all_asked, plain_leads, plain_proof_fault, plain_rows, plain_states
from tests.samples import some_book, some_start
from tests.tools import Dice, Hostile, Odd, WrapCase, as_lists, as_tuples, empties, odd_things, ring
from underwraps.books import Book
from underwraps.errors import BadIndex, BadRows
from underwraps.machines import least_machine
from underwraps.proofs import is_proof, proof_fault, row_says, told_proof

BOOK = Book(["a", "d"], [], [("make", "a"), ("make", "d"), ("wrap", "a", "d"), ("open", "a")])
ASKED = ("d", ())
PROOF = ([("start", "a", "a", "a"), ("led", 0, "d", "known")], "d", [("over", 1)])

WIDE = Book(["a", "b", "c"], ["x", "y"], [
    ("make", "a"), ("bring", "b"), ("show", "c"), ("copy", "a", "b"), ("copy", "c", "c"), ("derive", "a", "x", "b"),
    ("derive", "b", "x", "c"), ("derive", "b", "y", "a"), ("wrap", "b", "c"), ("wrap", "a", "b"), ("unwrap", "a", "b"),
    ("unwrap", "c", "a"), ("seal", "a"), ("open", "b"),
])
START = [["a", "b"], [], ["c"]]
# Each says something of WIDE and START: 0 to 2 pairs, 3 to 5 ties, then what comes of these.
ROWS = [
    ("start", 0, "a", "b"), ("start", "known", "known", "known"), ("start", "a", "a", "a"),
    ("let", ("copy", "a", "b")), ("let", ("bring", "b")), ("let", ("show", "c")),
    ("moved", 0, "x", "b", "c"), ("first", 0, 3), ("second", 1, 4), ("led", 0, "c", "b"),
]
SAID = [
    ("pair", "a", "b"), ("pair", "known", "known"), ("pair", "a", "a"),
    ("tie", "a", "b"), ("tie", "known", "b"), ("tie", "c", "known"),
    ("pair", "b", "c"), ("pair", "b", "b"), ("pair", "known", "b"), ("tie", "c", "b"),
]


class TestExample(WrapCase):
    def test_10_6(self):
        self.assertIsNone(proof_fault(BOOK, [], ASKED, "known", PROOF))
        self.says(True, is_proof(BOOK, [], ASKED, "known", PROOF))
        shut = Book(["a", "d"], [], BOOK.all_permits()[:2] + [("wrap", "a", "d")])
        self.assertIsNone(told_proof(shut, [], ASKED, "known"))
        self.assertEqual(least_machine(shut, []), ([], [("a", "a"), ("d", "d"), ("known", "known")]))
        self.assertEqual(row_says(BOOK, [], PROOF[0], 1), ("tie", "d", "known"))


class TestRows(WrapCase):
    def said(self, row, book=WIDE, start=tuple(START)):
        """Return what a row says behind ROWS, None if it is none there."""
        fault = proof_fault(book, start, ("known", ()), "known", (ROWS + [row], "known", []))
        self.assertIn(fault, (None, ("row", len(ROWS))))
        listed = list(row) if isinstance(row, tuple) else row
        self.assertEqual(fault, proof_fault(book, start, ("known", ()), "known", [tuple(ROWS) + (listed,), "known", ()]))
        return None if fault else row_says(book, start, ROWS + [row], len(ROWS))

    def test_said(self):
        for rows in (ROWS, tuple(ROWS), as_lists(ROWS), as_tuples(ROWS)):
            for index, wanted in enumerate(SAID):
                self.assertEqual(row_says(index=index, rows=rows, start=START, book=WIDE), wanted)

    def test_start(self):
        for row, says in [
            (("start", 0, "b", "a"), ("b", "a")), (("start", 0, "b", "b"), ("b", "b")), (("start", 2, "c", "c"), ("c", "c")),
            (("start", 0, "a", "c"), None), (("start", 0, "c", "a"), None), (("start", 1, "a", "a"), None),
            (("start", 3, "a", "a"), None), (("start", "b", "b", "b"), None), (("start", "a", "a", "b"), None),
            (("start", "known", "a", "known"), None), (("start", True, "a", "a"), None), (("start", False, "a", "a"), None),
            (("start", 0, "a", "a", "a"), None), (("start", 0, "a"), None), (("start", "c", "c", "c"), None),
            (("start", 0, "a", Hostile()), None), (("start", Hostile(), "a", "a"), None), (("start", 0, ["a"], "a"), None),
        ]:
            self.assertEqual(self.said(row), says and ("pair", *says))

    def test_moved(self):
        for row, says in [
            (("moved", 0, "x", "b", "c"), ("b", "c")), (("moved", 6, "x", "c", "c"), None), (("moved", 7, "x", "c", "c"), ("c", "c")),
            (("moved", 1, "x", "known", "known"), ("known", "known")), (("moved", 8, "y", "known", "a"), ("known", "a")),
            (("moved", 8, "x", "known", "c"), ("known", "c")), (("moved", 8, "x", "c", "known"), None),
            (("moved", 1, "x", "known", "a"), None), (("moved", 1, "x", "a", "known"), None), (("moved", 0, "y", "b", "a"), None),
            (("moved", 0, "y", "a", "a"), None), (("moved", 0, "x", "c", "b"), None), (("moved", 0, "z", "b", "c"), None),
            (("moved", 3, "x", "b", "c"), None), (("moved", 10, "x", "b", "c"), None), (("moved", False, "x", "b", "c"), None),
            (("moved", -1, "x", "b", "c"), None), (("moved", 0, Hostile(), "b", "c"), None), (("moved", 0, "x", "b"), None),
            (("moved", "0", "x", "b", "c"), None), (("moved", 0, "x", "b", "c", "c"), None), (("moved", 0, ["x"], "b", "c"), None),
        ]:
            self.assertEqual(self.said(row), says and ("pair", *says))

    def test_first_second(self):
        for row, says in [
            (("first", 0, 3), ("b", "b")), (("second", 0, 3), None), (("first", 2, 3), ("b", "a")), (("second", 2, 3), ("a", "b")),
            (("first", 1, 4), ("b", "known")), (("second", 1, 4), ("known", "b")), (("second", 6, 5), ("b", "known")),
            (("first", 6, 5), None), (("second", 6, 9), ("b", "b")), (("first", 3, 0), None), (("first", 3, 3), None),
            (("first", 0, 0), None), (("second", 0, 10), None), (("first", 10, 3), None), (("first", 0, 11), None),
            (("first", 0, True), None), (("first", False, 3), None), (("first", 0), None), (("first", 0, 3, 3), None),
            (("second", 2, -7), None), (("second", Odd(), 3), None), (("second", 2, [3]), None),
        ]:
            self.assertEqual(self.said(row), says and ("pair", *says))

    def test_let(self):
        for row, says in [
            (("let", ("copy", "a", "b")), ("a", "b")), (("let", ["bring", "b"]), ("known", "b")), (("let", ("show", "c")), ("c", "known")),
            (("let", ("copy", "c", "c")), None), (("let", ("copy", "b", "a")), None), (("let", ("bring", "a")), None),
            (("let", ("show", "a")), None), (("let", ("make", "a")), None), (("let", ("derive", "a", "x", "b")), None),
            (("let", ("wrap", "b", "c")), None), (("let", ("unwrap", "c", "a")), None), (("let", ("seal", "a")), None),
            (("let", ("open", "b")), None), (("let", "copy"), None), (("let",), None), (("let", ("show", "c"), 0), None),
            (("let", ()), None), (("let", Hostile()), None), (("let", ("show", Hostile())), None), (("let", None), None),
        ]:
            self.assertEqual(self.said(row), says and ("tie", *says))

    def led(self, permits, pair):
        """Return the ties that led rows say by a pair, in a book of roles a, b, c, d with permits."""
        book = Book(["a", "b", "c", "d"], [], permits)
        start, root = ([], "known") if pair == ("known", "known") else ([[role for role in sorted(set(pair)) if role != "known"]], 0)
        rows = [("start", root, pair[0], pair[1])]
        if "known" in pair and pair != ("known", "known"):
            book = Book(["a", "b", "c", "d"], [], permits + [("show", role) for role in pair if role != "known"])
            role = start[0][0]
            rows = [("start", 0, role, role), ("let", ("show", role)), ("first" if pair[0] == "known" else "second", 0, 1)]
        at, states = len(rows) - 1, plain_states(book)
        self.assertEqual(row_says(book, start, rows, at), ("pair", *pair))
        told = []
        for p in states:
            for q in states:
                row = ("led", at, p, q)
                if proof_fault(book, start, ("known", ()), "known", (rows + [row], "known", [])) is None:
                    self.assertEqual(row_says(book, start, rows + [row], at + 1), ("tie", p, q))
                    told.append((p, q))
        return told

    def test_led(self):
        wrap, unwrap, seal, open_ = ("wrap", "b", "d"), ("unwrap", "a", "c"), ("seal", "b"), ("open", "a")
        for permits, pair, told in [
            ([wrap, unwrap], ("a", "b"), [("d", "c")]), ([wrap, unwrap], ("b", "a"), []), ([wrap], ("a", "b"), []),
            ([wrap, open_], ("a", "b"), [("d", "known")]), ([wrap, open_], ("b", "a"), []), ([wrap], ("known", "b"), [("d", "known")]),
            ([wrap], ("b", "known"), []), ([unwrap], ("a", "b"), []), ([unwrap, seal], ("a", "b"), [("known", "c")]),
            ([unwrap, seal], ("b", "a"), []), ([unwrap], ("a", "known"), [("known", "c")]), ([unwrap], ("known", "a"), []),
            ([wrap, unwrap, seal, open_], ("a", "b"), [("d", "c"), ("d", "known"), ("known", "c")]),
            ([wrap, unwrap, seal, open_], ("known", "known"), []), ([("wrap", "b", "c"), unwrap], ("a", "b"), []),
            ([("wrap", "a", "a"), ("unwrap", "a", "b")], ("a", "a"), [("a", "b")]),
        ]:
            self.assertEqual(self.led(permits, pair), told)

    def test_led_that_is_none(self):
        for row in [
            ("led", 0, "c", "c"), ("led", 3, "c", "b"), ("led", 10, "c", "b"), ("led", True, "c", "b"), ("led", 0, "c"),
            ("led", 0, "c", "b", "b"), ("led", 0, "c", Hostile()), ("led", 0, Hostile(), "b"), ("led", 0, "c", "q"),
            ("led", 0, "known", "known"), ("led", 0, ["c"], "b"), ("led", None, "c", "b"),
        ]:
            self.assertIsNone(self.said(row))

    def test_no_rows(self):
        for row in odd_things() + empties() + [("start",), ("begin", 0, "a", "a"), {"start": 0}, "start", ring()]:
            self.assertIsNone(self.said(row))

    def test_row_says_errors(self):
        for rows in [None, "start", {}, {("start", "a", "a", "a")}, 0, Hostile(), iter(ROWS)]:
            self.raises(BadRows, 0, row_says, WIDE, START, rows, None)
        for row in odd_things() + empties():
            self.raises(BadRows, 3, row_says, WIDE, START, ROWS[:3] + [row] + ROWS[4:], None)
        self.raises(BadRows, 0, row_says, WIDE, START, [ROWS[6]] + ROWS, 0)
        for index in [-1, 10, 11, True, False, None, "0", 1.0, Hostile(), [0], Odd()]:
            self.raises(BadIndex, index, row_says, WIDE, START, ROWS, index)
        self.raises(BadIndex, 0, row_says, WIDE, START, [], 0)


class TestJudged(WrapCase):
    def fault(self, first, steps, asked=(0, ("x", "x")), state="known"):
        fault = proof_fault(WIDE, START, asked, state, (ROWS, first, steps))
        listed = [as_lists(ROWS), first, [list(step) if isinstance(step, tuple) else step for step in steps]]
        self.assertEqual(proof_fault(WIDE, as_tuples(START), as_lists(asked), state, listed), fault)
        self.says(fault is None, is_proof(thing=(ROWS, first, steps), state=state, asked=asked, start=START, book=WIDE))
        return fault

    def test_right(self):
        self.assertIsNone(self.fault("a", [("go", "b"), ("go", "c"), ("over", 5)]))
        self.assertIsNone(self.fault("a", [("over", 3), ("go", "c"), ("over", 5), ("go", "known")]))
        self.assertIsNone(self.fault("b", [], asked=(0, ()), state="b"))
        self.assertIsNone(self.fault("known", [], asked=("known", ()), state="known"))
        self.assertIsNone(self.fault("known", [("go", "known"), ("over", 4)], asked=("known", ("y",)), state="b"))
        self.assertIsNone(self.fault("c", [("over", 9), ("go", "a"), ("over", 3)], asked=(2, ("y",)), state="b"))
        self.assertIsNone(proof_fault(WIDE, START, (0, ()), "a", [(), "a", ()]))

    def test_first(self):
        for first in ("c", "known", "", "q", "x", "first"):
            self.assertEqual(self.fault(first, [None]), ("first", 0))
        self.assertEqual(self.fault("b", [], asked=("a", ()), state="b"), ("first", 0))
        self.assertEqual(self.fault("a", [], asked=(1, ()), state="a"), ("first", 0))
        self.assertEqual(self.fault("b", [], asked=("known", ()), state="b"), ("first", 0))

    def test_steps(self):
        for steps, index in [
            ([("go", "c")], 0), ([("go", "a")], 0), ([("over", 4)], 0), ([("over", 0)], 0), ([("over", 10)], 0),
            ([("over", True)], 0), ([("over", -7)], 0), ([("go", "b"), ("over", 3)], 1), ([("go", "b"), ("go", "a")], 1),
            ([("go", "b"), ("go", "c"), ("go", "c")], 2), ([("go", "b"), ("go", "c"), ("over", 5), ("go", "known")], 3),
            ([("over",)], 0), ([("over", 3, 3)], 0), ([("go",)], 0), ([("go", "b", "b")], 0), ([("went", "b")], 0),
            ([("go", Hostile())], 0), ([("over", Hostile())], 0), ([("over", "3")], 0), ([("go", ["b"])], 0), ([("go", "q")], 0),
        ]:
            self.assertEqual(self.fault("a", steps), ("step", index))
        for thing in odd_things() + empties():
            self.assertEqual(self.fault("a", [("go", "b"), thing]), ("step", 1))

    def test_end(self):
        for steps in ([], [("go", "b")], [("go", "b"), ("go", "c")], [("over", 3)], [("over", 3), ("go", "c"), ("over", 9)]):
            self.assertEqual(self.fault("a", steps), ("end", len(steps)))
        self.assertEqual(self.fault("a", [("over", 3)], asked=(0, ()), state="a"), ("end", 1))

    def test_form(self):
        for thing in odd_things() + empties() + [
            (ROWS, "a"), (ROWS, "a", [], []), (ROWS, 0, []), (ROWS, None, []), (ROWS, ["a"], []), ("rows", "a", []),
            (ROWS, "a", "steps"), ({}, "a", []), (ROWS, "a", {}), (None, "a", []), (ROWS, "a", None), (ROWS, Hostile(), []),
            (Hostile(), "a", []), (ROWS, "a", Hostile()), (ROWS, b"a", []), {0: ROWS, 1: "a", 2: []}, (iter(ROWS), "a", []),
            (set(), "a", []), "abc",
        ]:
            self.assertEqual(proof_fault(WIDE, START, (0, ()), "a", thing), ("form", 0))
            self.says(False, is_proof(WIDE, START, (0, ()), "a", thing))

    def test_rows_ahead_of_first_ahead_of_steps(self):
        self.assertEqual(proof_fault(WIDE, START, (0, ()), "a", ([None, 1], "q", [None])), ("row", 0))
        self.assertEqual(proof_fault(WIDE, START, (0, ()), "a", (ROWS + [ROWS[3], ("first", 0, 11)], "q", [None])), ("row", 11))
        self.assertEqual(proof_fault(WIDE, START, (0, ()), "a", (ROWS, "q", [None])), ("first", 0))
        self.assertEqual(proof_fault(WIDE, START, (0, ()), "a", (ROWS, "a", [None])), ("step", 0))


def some_asked(count):
    """Return (dice, book, start, asked keys of at most two labels)."""
    dice = Dice(count)
    roles, labels = ["a", "b", "c"][:dice.number(4)], ["x", "y"][:dice.number(3)]
    book = some_book(dice, roles, labels, 2 + dice.number(4))
    start = some_start(dice, roles, 2)
    return dice, book, start, all_asked(book, start, 2)


def changed(dice, thing, words):
    """Return a thing of lists with one number or string in it another one, or one part left out, twice or moved."""
    if isinstance(thing, int):
        return dice.number(thing + 3)
    if isinstance(thing, str):
        return dice.one(words)
    out = list(thing)
    at = dice.number(len(out)) if out else None
    if out and isinstance(out[at], list) and dice.number(4) == 0:
        part = out.pop(at)
        for _ in range(dice.number(3)):
            out.insert(dice.number(len(out) + 1), part)
    elif out:
        out[at] = changed(dice, out[at], words)
    return out


class TestItHolds(WrapCase):
    def test_just_one(self):
        told, longest, most = {True: 0, False: 0}, 0, 0
        for count in range(110):
            _, book, start, asked_keys = some_asked(count)
            ties, _ = least_machine(book, start)
            states = plain_states(book)
            for asked in asked_keys:
                leads = plain_leads(book, start, ties, asked)
                for state in states:
                    proof = told_proof(book, start, asked, state)
                    self.assertEqual(proof is not None, state in leads)
                    told[state in leads] += 1
                    if proof is not None:
                        self.assertIsNone(proof_fault(book, start, asked, state, proof))
                        self.assertLessEqual(len(proof[0]), 2 * len(states) ** 2)
                        longest, most = max(longest, len(proof[2])), max(most, len(proof[0]))
        self.assertGreater(min(told.values()), 500)
        self.assertGreater(longest, 4)
        self.assertGreater(most, 6)

    def test_told_ones_by_a_plain_reading(self):
        faults = {}
        for count in range(90):
            dice, book, start, asked_keys = some_asked(count)
            words = plain_states(book) + book.all_labels() + ["over", "go", "start", "moved", "first", "second", "let", "led"]
            for asked in dice.some(asked_keys, 4):
                state = dice.one(plain_states(book))
                proof = told_proof(book, start, asked, state)
                if proof is None:
                    continue
                self.assertEqual(proof, as_tuples(proof)[:0] + (
                    [as_tuples(row) for row in proof[0]], proof[1], [as_tuples(step) for step in proof[2]]))
                self.assertIsNone(plain_proof_fault(book, start, asked, state, as_tuples(proof)))
                for _ in range(8):
                    other = changed(dice, as_lists(proof), words)
                    if len(other) != 3 or [type(part) for part in other] != [list, str, list]:
                        self.assertEqual(proof_fault(book, start, asked, state, other), ("form", 0))
                        continue
                    fault = proof_fault(book, start, asked, state, other)
                    self.assertEqual(fault, plain_proof_fault(book, start, asked, state, as_tuples(other)))
                    faults[fault and fault[0]] = faults.get(fault and fault[0], 0) + 1
        for word in (None, "row", "first", "step", "end"):
            self.assertGreater(faults[word], 20, word)

    def test_rows_that_can_be_made(self):
        made = {}
        for count in range(60):
            dice, book, start, asked_keys = some_asked(count)
            rows, said = [], []
            for _ in range(12):
                row, says, _ = dice.one(sorted(plain_rows(book, start, said), key=repr))
                rows.append(row)
                said.append(says)
                made[row[0]] = made.get(row[0], 0) + 1
            self.assertEqual([row_says(book, start, as_lists(rows), index) for index in range(12)], said)
            ties, pairs = least_machine(book, start)
            self.assertTrue(all([says[1:] in (ties if says[0] == "tie" else pairs) for says in said]))
            self.assertEqual(proof_fault(book, start, ("known", ()), "known", (rows, "known", [])), None)
        for word in ("start", "moved", "first", "second", "let", "led"):
            self.assertGreater(made[word], 10, word)


class TestTold(WrapCase):
    def test_edges(self):
        bare = Book([], [], [])
        self.assertEqual(told_proof(bare, [], ("known", ()), "known"), ([], "known", []))
        self.assertIsNone(told_proof(Book(["a"], [], []), [[]], (0, ()), "a"))
        self.assertEqual(told_proof(Book(["a"], [], []), [["a"]], (0, ()), "a"), ([], "a", []))
        self.assertEqual(told_proof(state="known", asked=["known", ["x"]], start=(), book=Book([], ["x"], [])), (
            [], "known", [("go", "known")],
        ))
        copying = Book(["a", "b"], ["x"], [("copy", "a", "b"), ("derive", "b", "x", "a")])
        proof = told_proof(copying, [["a"]], (0, ("x",)), "b")
        self.assertIsNone(proof_fault(copying, [["a"]], (0, ["x"]), "b", proof))
        self.assertEqual(proof[0], [("let", ("copy", "a", "b"))])
