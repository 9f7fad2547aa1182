"""2.3, 2.4, and the heads of 9 to 12: verdicts, logs of proofs, lean logs, tables are answered in seconds at the limits."""

from tests.plain import plain_log
from tests.plainrules import plain_rows, plain_states
from tests.samples import all_permits, some_log
from tests.test_limits_states import LABELS, ROLES, widest
from tests.tools import Dice, WrapCase
from underwraps.books import Book
from underwraps.leading import leads_to
from underwraps.leanlogs import is_lean, led_over
from underwraps.ledlogs import led_by
from underwraps.logs import log_fault, log_tells
from underwraps.machines import is_closed, least_machine
from underwraps.outwords import all_first, count_first, count_out, first_words, kind_of, parted_behind, shortest_out
from underwraps.prooflogs import log_of_proof, telling_log
from underwraps.proofs import is_proof, told_proof
from underwraps.settling import brought_along, reach, settled
from underwraps.states import roots_of, states_of
from underwraps.tables import is_table, least_table, parting_word, road_to, table_row
from underwraps.verdicts import is_bringing, is_never, judged, verdict

# Found by a search for books that ask for long logs: which role goes by which label to which one, and the other permits.
LONG = [
    ("fzd exe dxa bzc fxe eyc fxd ayd cyf fyb", "wcd ufc oa udb ued wfc ube uaa", [["a", "b"]], "zxyyzxxyyy"),
    ("cyf azb cxe bzb axf dya cyb exd dzc aya", "udd udf ufe uaa wff oa ued wcb wce ube", [["a", "b"]], "yyzzzyxyxy"),
    ("cze fyd eye bze fxf cye exe axc czf fze eza fye bxe dyf cyb", "wab wff od uda ubf ubb ucc", [["a"], ["b"]], "xzzxyzyzzx"),
    ("bxa dzc fyf exb axd azd cxf fxe fze", "udb uee wad ubd ubf oc ucc wbf", [["a"], ["b"]], "xxzzxxxxxz"),
]
WORDS = {"w": "wrap", "u": "unwrap", "o": "open"}


def long_book(row):
    """Return (book, start, asked) of a row of LONG."""
    goes, others, start, word = row
    permits = [("derive", r, x, s) for r, x, s in goes.split()] + [(WORDS[part[0]], *part[1:]) for part in others.split()]
    return Book(list("abcdef"), LABELS, permits), start, (0, tuple(word))


class TestTold(WrapCase):
    def asked(self, book, start, asked):
        """Ask all of section 9, and for logs of proofs, of one asked key; return how many calls the longest log has."""
        led = self.in_seconds(reach, book, start, asked)
        machine, longest = least_machine(book, start), 0
        self.assertEqual(led, leads_to(book, start, machine[0], asked))
        for state in states_of(book):
            word, paper = told = self.in_seconds(verdict, book, start, asked, state)
            self.assertEqual(word, "told" if state in led else "never")
            self.assertEqual(self.in_seconds(judged, book, start, asked, state, told), word)
            self.says(word == "never", self.in_seconds(is_never, book, start, asked, state, machine))
            if word == "told":
                longest = max(longest, len(paper))
                self.says(True, self.in_seconds(is_bringing, book, start, asked, state, paper))
                proof = told_proof(book, start, asked, state)
                log, _ = self.in_seconds(log_of_proof, book, start, asked, state, proof)
                self.says(True, is_bringing(book, start, asked, state, log))
                self.assertLessEqual(len(log), len(proof[0]) ** 2 + len(proof[0]) + 2 * len(proof[2]) + 1)
        self.told(book, start, asked, "known" in led)
        return longest

    def told(self, book, start, asked, comes):
        """Look at the log that tells an asked key, if it comes out."""
        found = self.in_seconds(telling_log, book, start, asked)
        self.assertEqual(found is not None, comes)
        if comes:
            self.says(True, log_tells(book, start, *found))

    def test_widest_books(self):
        for count in range(16):
            dice, book, start = widest(count)
            questions = []
            for root in roots_of(book, start):
                asked = (root, dice.some(LABELS, 10))
                self.asked(book, start, asked)
                questions += [(asked, state) for state in states_of(book)]
            log, machine = self.in_seconds(settled, book, start, questions)
            self.says(True, is_closed(book, start, machine))
            for asked, state in questions:
                self.says(not is_never(book, start, asked, state, machine), is_bringing(book, start, asked, state, log))
            self.assertLessEqual(len(self.in_seconds(brought_along, book, start)), 6)

    def test_long_logs(self):
        for row in LONG:
            book, start, asked = long_book(row)
            self.assertGreater(self.asked(book, start, asked), 80)
            log, key = telling_log(book, start, asked)
            self.assertGreater(len(log), 30)
            self.assertIsNone(plain_log(book.all_permits(), start, log)[2])
            self.says(True, log_tells(book, start, log, key))

    def test_three_hundred_calls(self):
        book, start, log = self.many_calls()
        for asked, state, right in [((0, ("x",) * 10), "known", True), ((1, ()), "known", False), (("a", ()), "a", True)]:
            self.says(right, self.in_seconds(is_bringing, book, start, asked, state, log))
            self.assertEqual(self.in_seconds(judged, book, start, asked, state, ("told", log)), "told" if right else None)
        lean, places, keys = self.in_seconds(led_over, book, start, log)
        self.says(True, self.in_seconds(is_lean, book, start, lean))
        self.assertEqual((len(places), len(keys)), (1 + 1 + 60 + 10 + 1, 60))

    def many_calls(self):
        """Return (book, start, log), the log of three hundred calls."""
        book = Book(["a"], ["x"], [("make", "a"), ("derive", "a", "x", "a"), ("seal", "a"), ("show", "a"), ("open", "a"), ("bring", "a")])
        own = (("own", 3), ("x",) * 10)
        log = [("make", "a")] * 60 + [("derive", 0, "x", "a")] + [("derive", number, "x", "a") for number in range(62, 71)]
        log += [("show", 71), ("bring", "a", own)]
        thing = own
        for _ in range(6):
            log.append(("seal", 0, thing))
            thing = ("under", (("given", 0), ()), thing)
        while len(log) < 300:
            log.append(("open", 0, thing) if len(log) % 2 else ("seal", len(log) % 60, thing))
        self.assertIsNone(log_fault(book, [["a"], ["a"]], log))
        return book, [["a"], ["a"]], log

    def test_proofs_of_three_hundred_rows(self):
        for count in range(4):
            dice, book, start = widest(count)
            rows, said = [], []
            while len(rows) < 300:
                right = sorted(plain_rows(book, start, said), key=repr)
                fresh = [row for row in right if row[1] not in said] or dice.some(right, 300 - len(rows))
                for row, says, _ in fresh[:300 - len(rows)]:
                    rows.append(row)
                    said.append(says)
            for root, at in [(root, at) for root in roots_of(book, start) for at in (start[root] if isinstance(root, int) else [root])]:
                over = [("over", j) for j, fact in enumerate(said) if fact[:2] == ("tie", at)]
                for step in dice.some(over, 2) if over else []:
                    state = said[step[1]][2]
                    proof = (rows, at, [step])
                    self.says(True, is_proof(book, start, (root, ()), state, proof))
                    log, _ = self.in_seconds(log_of_proof, book, start, (root, ()), state, proof)
                    self.says(True, is_bringing(book, start, (root, ()), state, log))
                    self.assertLessEqual(len(log), 300 * 300 + 300 + 2 + 1)

    def test_led_logs(self):
        for count in range(12):
            dice, book, start = widest(count)
            first, log = some_log(dice, book, start, 30), some_log(dice, book, start, 30)
            house, _, _ = plain_log(book.all_permits(), start, first)
            table = {("given", 0): (("given", 0), ()), ("own", 0): (("own", 3), ("x",) * 30), ("own", 1): (("own", 2), ())}
            whole, places, _ = self.in_seconds(led_by, book, start, first, log, table)
            self.assertIsNone(log_fault(book, start, whole))
            self.assertEqual(places[:len(start)], list(range(len(start))))
            self.assertGreaterEqual(len(house.handles), len(start))
            lean, _, _ = self.in_seconds(led_over, book, start, whole)
            self.says(True, self.in_seconds(is_lean, book, start, lean))


class TestWords(WrapCase):
    def tables(self, dice, book, start):
        """Ask all of section 12; return how many rows the largest table has."""
        most = 0
        for root in roots_of(book, start):
            table = self.in_seconds(least_table, book, start, root)
            self.says(True, self.in_seconds(is_table, book, table))
            most = max(most, len(table))
            words = self.in_seconds(first_words, book, start, root, 5)
            self.assertEqual(len(words), sum([count_first(book, start, root, many) for many in range(6)]))
            count = self.in_seconds(count_out, book, start, root, 60)
            self.assertLessEqual(count, len(book.all_labels()) ** 60)
            firsts = self.in_seconds(count_first, book, start, root, 60)
            every = self.in_seconds(all_first, book, start, root)
            self.assertTrue(every is None or firsts == 0)
            for row in range(len(table)):
                self.assertEqual(table_row(book, table, self.in_seconds(road_to, book, table, row)), row)
                self.assertEqual(self.in_seconds(parting_word, book, table, row, 0) is None, row == 0)
            asked = (root, tuple(dice.some(book.all_labels(), 10)))
            kind, shortest = self.in_seconds(kind_of, book, start, asked), self.in_seconds(shortest_out, book, start, asked)
            self.assertEqual(kind, "safe" if shortest is None else "near" if shortest else "out")
            self.in_seconds(parted_behind, book, start, asked, (0, ()))
        return most

    def test_widest_books(self):
        most = []
        for count in range(12):
            dice, book, start = widest(count, [("derive", "make"), ("derive",), ("derive", "copy", "wrap", "open", "make")][count % 3])
            most.append(self.tables(dice, book, start))
        self.assertEqual(len(plain_states(book)), 7)
        self.assertGreaterEqual(max(most), 1)

    def test_large_tables(self):
        most = []
        for count in range(30):
            dice = Dice(count)
            permits = {("derive", role, label, dice.one(ROLES)) for role in ROLES for label in LABELS} | {("show", ROLES[0])}
            permits = sorted(permits | {("derive", dice.one(ROLES), dice.one(LABELS), dice.one(ROLES)) for _ in range(10)})
            most.append(self.tables(dice, Book(ROLES, LABELS, permits), [[ROLES[1]], [ROLES[2], ROLES[3]], []]))
        self.assertGreater(max(most), 6)

    def test_as_many_rows_as_lots_of_five_roles(self):
        # A key stands in any of five roles: one label turns them, one loses the first of them, by one this one comes out.
        turn = [("derive", ROLES[1 + at], "x", ROLES[1 + (at + 1) % 5]) for at in range(5)]
        lose = [("derive", ROLES[at], "y", ROLES[at]) for at in range(2, 6)]
        book = Book(ROLES, LABELS, turn + lose + [("derive", ROLES[1], "z", ROLES[0]), ("show", ROLES[0])])
        table = self.in_seconds(least_table, book, [ROLES[1:]], 0)
        self.assertEqual(len(table), 2 ** 5 + 1)
        self.tables(Dice(0), book, [ROLES[1:]])
        for row in range(len(table)):
            for mate in range(row):
                self.assertLessEqual(len(parting_word(book, table, row, mate)), len(table) - 2)

    def test_somewhat_beyond(self):
        dice, roles = Dice(9), ["role" + str(number) for number in range(9)]
        book = Book(roles, LABELS, dice.mixed([permit for permit in all_permits(roles, LABELS) if permit[0] == "derive"])[:40] + [
            ("show", roles[0])])
        self.tables(dice, book, [[role] for role in roles])
        self.assertEqual(self.in_seconds(count_out, Book(["a"], LABELS, [("show", "a")]), [["a"]], 0, 400), 3 ** 400)
