"""10.3, 10.4, 10.6: logs of proofs, with few calls, and logs that tell, thinned."""

from tests.plain import led_log, plain_log
from tests.plainrules import all_asked, plain_leads, plain_rows, plain_said, plain_states
from tests.plainwords import keys_asked, plain_brings, plain_reach
from tests.samples import all_permits, some_book, some_led, some_start, some_wraps
from tests.tools import Dice, Hostile, WrapCase, as_lists, as_tuples
from underwraps.books import Book
from underwraps.errors import BadProof
from underwraps.houses import House
from underwraps.logs import log_fault, log_tells, thinned_log
from underwraps.prooflogs import log_of_proof, telling_log
from underwraps.proofs import is_proof, told_proof

BOOK = Book(["a", "d"], [], [("make", "a"), ("make", "d"), ("wrap", "a", "d"), ("open", "a")])
PROOF = ([("start", "a", "a", "a"), ("led", 0, "d", "known")], "d", [("over", 1)])
M, O = [(("made", number), ()) for number in range(4)], (("own", 0), ())
TOLD = [("make", "a"), ("make", "d"), ("wrap", 0, 1), ("open", 0, ("under", M[0], M[1]))]
BARE = Book([], [], [])


class TestExample(WrapCase):
    def test_10_6(self):
        log, key = log_of_proof(BOOK, [], ("d", ()), "known", PROOF)
        self.assertEqual((log, key), (TOLD, M[1]))
        self.assertEqual(telling_log(BOOK, [], ("d", ())), (TOLD, M[1]))
        shut = Book(["a", "d"], [], BOOK.all_permits()[:2] + [("wrap", "a", "d")])
        self.assertIsNone(telling_log(shut, [], ("d", ())))


class ProofCase(WrapCase):
    def does(self, book, start, asked, state, proof):
        """Look that the log of a proof does what it is to; return it."""
        told = log_of_proof(book, start, asked, state, proof)
        log, key = told
        house, _, fault = plain_log(book.all_permits(), start, log)
        self.assertIsNone(fault)
        self.assertIn(key, keys_asked(log, asked))
        if asked[0] == "known":
            self.assertEqual(key[0], ("own", 0))
        if state == "known":
            self.says(True, log_tells(book, start, log, key))
        else:
            self.assertIn((key, state), house.handles)
        self.assertTrue(plain_brings(book.all_permits(), start, log, asked, state))
        rows, steps = len(proof[0]), len(proof[2])
        self.assertLessEqual(len(log), rows * rows + rows + 2 * steps + 1)
        self.assertEqual(log_of_proof(book, start, as_lists(asked), state, as_lists(proof)), told)
        self.assertEqual(log_of_proof(proof=as_tuples(proof), state=state, asked=asked, start=start, book=book), told)
        self.assertEqual(repr(as_tuples(log)), repr(tuple(log)))
        return log


class TestOfProof(ProofCase):
    def test_edges(self):
        self.assertEqual(log_of_proof(BARE, [], ("known", ()), "known", ([], "known", [])), ([], O))
        book = Book(["a"], ["x"], [("derive", "a", "x", "a")])
        own = ([], "known", [("go", "known")] * 2)
        self.assertEqual(log_of_proof(book, [], ("known", ("x", "x")), "known", own), ([], (("own", 0), ("x", "x"))))
        self.assertEqual(log_of_proof(book, [[], ["a"]], (1, ()), "a", ([], "a", [])), ([], (("given", 1), ())))
        log, key = log_of_proof(book, [[], ["a"]], (1, ("x",)), "a", ([], "a", [("go", "a")]))
        self.assertEqual((log, key), ([("derive", 0, "x", "a")], (("given", 1), ("x",))))
        self.assertEqual(log_of_proof(BOOK, [], ("a", ()), "a", ([], "a", [])), ([("make", "a")], M[0]))

    def test_each_let_row(self):
        book = Book(["a", "b"], ["x"], [("copy", "a", "b"), ("bring", "a"), ("show", "b"), ("derive", "b", "x", "a"), ("make", "a")])
        rows = [("let", ("copy", "a", "b")), ("let", ("bring", "a")), ("let", ("show", "b"))]
        for asked, first, steps, state in [
            (("a", ()), "a", [("over", 0)], "b"), (("a", ()), "a", [("over", 0), ("over", 2)], "known"),
            (("known", ()), "known", [("over", 1), ("over", 0), ("go", "a")], "a"),
            (("a", ("x", "x")), "a", [("over", 0), ("go", "a"), ("over", 0), ("over", 2), ("go", "known"), ("over", 1)], "a"),
        ]:
            asked = (asked[0], ("x",) * len([step for step in steps if step[0] == "go"]))
            log = self.does(book, [], asked, state, (rows, first, steps))
            self.assertLessEqual(len(log), 1 + len(steps))

    def test_each_led_row(self):
        every = ["wrap", "unwrap", "seal", "open"]
        for code in range(16):
            words = [word for at, word in enumerate(every) if code >> at & 1]
            permits = [{"wrap": ("wrap", "b", "d"), "unwrap": ("unwrap", "a", "c"), "seal": ("seal", "b"), "open": ("open", "a")}[word]
                       for word in words]
            more = [("make", "d"), ("show", "a"), ("show", "b")]
            for pair, shown in [(("a", "b"), []), (("known", "b"), [("let", ("show", "a"))]), (("a", "known"), [("let", ("show", "b"))])]:
                book = Book(["a", "b", "c", "d"], [], permits + (more if shown else more[:1]))
                rows = [("start", 0, "a", "b")] + shown + ([("first" if pair[0] == "known" else "second", 0, 1)] if shown else [])
                for p, q, root in [("d", "c", "d"), ("d", "known", "d"), ("known", "c", "known")]:
                    proof = (rows + [("led", len(rows) - 1, p, q)], p, [("over", len(rows))])
                    if is_proof(book, [["a", "b"]], (root, ()), q, proof):
                        log = self.does(book, [["a", "b"]], (root, ()), q, proof)
                        self.assertLessEqual(len(log), 1 + len(shown) + 2)

    def test_steps_that_come_back(self):
        book = Book(["a", "b"], ["x"], [("copy", "a", "b"), ("copy", "b", "a"), ("derive", "a", "x", "a"), ("show", "a"), ("bring", "b")])
        rows = [("let", permit) for permit in [("copy", "a", "b"), ("copy", "b", "a"), ("show", "a"), ("bring", "b")]]
        round_ = [("over", 0), ("over", 1)]
        self.does(book, [["a"]], (0, ("x",)), "a", (rows, "a", round_ * 3 + [("go", "a")] + round_ * 2))
        self.does(book, [["a"]], (0, ("x",)), "b", (rows, "a", [("over", 2), ("over", 3), ("over", 1), ("go", "a"), ("over", 2), ("over", 3)]))

    def test_rows_that_say_the_same(self):
        rows = [("start", "a", "a", "a")] * 3 + [("led", 2, "d", "known"), ("led", 0, "d", "known"), ("led", 1, "d", "known")]
        for step in (3, 4, 5):
            log = self.does(BOOK, [], ("d", ()), "known", (rows, "d", [("over", step)]))
            self.assertEqual(len(log), 4)

    def test_no_proof(self):
        for thing in [None, "", (), ([], "d", []), ([], "a", []), (PROOF[0], "d", []), (PROOF[0], "d", [("over", 0)]), PROOF[:2],
                      (PROOF[0][1:], "d", [("over", 0)]), {0: PROOF}, Hostile(), (Hostile(),) * 3]:
            self.raises(BadProof, thing, log_of_proof, BOOK, [], ("d", ()), "known", thing)
        self.raises(BadProof, PROOF, log_of_proof, BOOK, [], ("a", ()), "known", PROOF)
        self.raises(BadProof, PROOF, log_of_proof, BOOK, [], ("d", ()), "d", PROOF)

    def test_told_proofs(self):
        longest = done = 0
        for count in range(110):
            _, book, start = some_led(count, 4)
            for asked in all_asked(book, start, 2):
                for state in plain_states(book):
                    proof = told_proof(book, start, asked, state)
                    if proof is not None:
                        longest = max(longest, len(self.does(book, start, asked, state, proof)))
                        done += 1
        self.assertGreater(longest, 9)
        self.assertGreater(done, 1000)

    def test_any_proofs(self):
        done = {}
        for count in range(240):
            dice = Dice(count)
            roles, labels = ["a", "b", "c"][:1 + dice.number(3)], ["x", "y"][:dice.number(3)]
            book = [some_book, some_wraps][count % 2](dice, roles, labels, 2 + dice.number(3))
            start = some_start(dice, roles, 2)
            rows = []
            for _ in range(10 + dice.number(12)):
                right = sorted([row for row, _, _ in plain_rows(book, start, plain_said(book, start, rows))], key=repr)
                led = [row for row in right if row[0] in ("led", "first", "second")]
                rows.append(dice.one(led if led and dice.number(3) else right))
            said = plain_said(book, start, rows)
            for asked in dice.some(all_asked(book, start, 2), 6):
                proof = (rows,) + self.some_steps(dice, book, start, said, asked)
                if proof[2] is not None:
                    self.does(book, start, asked, proof[3], proof[:3])
                    for step in proof[2]:
                        word = rows[step[1]][0] if step[0] == "over" else "go"
                        done[word] = done.get(word, 0) + 1
        for word in ("go", "let", "led"):
            self.assertGreater(done[word], 100)

    def some_steps(self, dice, book, start, said, asked):
        """Return (first, steps, state) of a walk over whatever ties rows say, steps None if it comes to an end too early."""
        firsts = {number: list(roles) for number, roles in enumerate(start)}.get(asked[0], [asked[0]])
        if not firsts:
            return (None, None, None)
        at = first = dice.one(firsts)
        steps, left = [], list(asked[1])
        for _ in range(12):
            over = [("over", j) for j, fact in enumerate(said) if fact[0] == "tie" and fact[1] == at]
            if left:
                over += [("go", s) for s in plain_states(book) if plain_leads(book, [[at]] if at != "known" else [], [], (
                    0 if at != "known" else "known", (left[0],))) >= {s}]
            if not over or (not left and dice.number(3) == 0):
                break
            step = dice.one(over)
            at = said[step[1]][2] if step[0] == "over" else step[1]
            left = left[1:] if step[0] == "go" else left
            steps.append(step)
        return (first, None if left else steps, at)


class TestTelling(WrapCase):
    def test_edges(self):
        self.assertEqual(telling_log(BARE, [], ("known", ())), ([], O))
        self.assertEqual(telling_log(Book([], ["x"], []), [[]], ("known", ["x"])), ([], (("own", 0), ("x",))))
        self.assertIsNone(telling_log(BARE, [[]], (0, ())))
        self.assertIsNone(telling_log(asked=("a", ()), start=(), book=BOOK))
        book = Book(["a", "b"], ["x"], [("derive", "a", "x", "b"), ("show", "b"), ("show", "a")])
        self.assertEqual(telling_log(book, [["a", "b"]], (0, ("x",)))[1], (("given", 0), ("x",)))
        everything = Book(["a", "b"], ["x"], all_permits(["a", "b"], ["x"]))
        for asked in all_asked(everything, [["a"]], 2):
            log, key = telling_log(everything, [["a"]], asked)
            self.assertLessEqual(len(log), 2)
            self.says(True, log_tells(everything, [["a"]], log, key))

    def test_thinned(self):
        told, longest = {True: 0, False: 0}, 0
        for count in range(160):
            _, book, start = some_led(count, 5)
            for asked in all_asked(book, start, 2):
                found = telling_log(book, start, asked)
                comes = "known" in plain_reach(book, start, asked)
                self.assertEqual(found is not None, comes)
                told[comes] += 1
                if comes:
                    longest = max(longest, self.looked_at(book, start, asked, *found))
        self.assertGreater(min(told.values()), 300)
        self.assertGreater(longest, 4)

    def looked_at(self, book, start, asked, log, key):
        """Look that a log tells a key of an asked key, and no part of it; return how many calls it has."""
        self.assertIsNone(log_fault(book, start, log))
        self.says(True, log_tells(book, start, log, key))
        self.assertIn(key, keys_asked(log, asked))
        self.assertEqual(thinned_log(book, start, log, key), (log, key))
        many = len(plain_states(book))
        self.assertLessEqual(len(log), many ** 2 * (2 * many ** 2 + 1) + 2 * many * (len(asked[1]) + 1) + 1)
        given = len(House(book, start).handles())
        for code in range(2 ** len(log) - 1 if len(log) < 7 else 0):
            part, makes = led_log(given, log, [at for at in range(len(log)) if code >> at & 1])
            if part is None or (key[0][0] == "made" and key[0][1] not in makes):
                continue
            base = ("made", makes[key[0][1]]) if key[0][0] == "made" else key[0]
            if plain_log(book.all_permits(), start, part)[2] is None:
                self.says(False, log_tells(book, start, part, (base, key[1])))
        return len(log)
