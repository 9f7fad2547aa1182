"""2.3, 2.4, and the heads of 7, 8, 10: all of states, machines, proofs is answered in seconds at the limits."""

from tests.plainrules import all_pairs, all_ties, facts_in, plain_leads, plain_rows
from tests.samples import all_permits, some_log
from tests.tools import Dice, WrapCase, as_lists
from underwraps.books import Book
from underwraps.bunches import bunches_of, least_key
from underwraps.houses import House
from underwraps.leading import leads_to, pairs_of
from underwraps.logs import played
from underwraps.machines import grown, is_closed, least_machine, machine_lack, machine_wants, machines_met
from underwraps.proofs import is_proof, proof_fault, row_says, told_proof
from underwraps.ranks import asked_rank, machine_ranks, ranks_fault
from underwraps.states import first_states, is_asked, moves_of, roots_of, states_of
from underwraps.strays import strays
from underwraps.ties import ties_closed, ties_thinned

ROLES = ["role" + str(number) for number in range(6)]
LABELS = ["x", "y", "z"]


def widest(count, words=("make", "bring", "show", "seal", "open", "copy", "wrap", "unwrap", "derive")):
    """Return (dice, book, start): six roles, three labels, thirty permits with words, four given keys of three roles."""
    dice = Dice(count)
    permits = dice.mixed([permit for permit in all_permits(ROLES, LABELS) if permit[0] in words])[:30]
    return dice, Book(ROLES, LABELS, permits), [sorted(dice.mixed(ROLES)[:3]) for _ in range(4)]


class TestLimits(WrapCase):
    def asked(self, book, start, ties, words):
        """Ask all of section 7; look that some answers go together."""
        roots = self.in_seconds(roots_of, book, start)
        self.assertEqual(len(self.in_seconds(states_of, book)), 7)
        self.in_seconds(moves_of, book)
        pairs = self.in_seconds(pairs_of, book, start, ties)
        bunches = self.in_seconds(bunches_of, book, start, ties)
        self.assertEqual(pairs, sorted({(p, q) for bunch in bunches for p in bunch for q in bunch}))
        closed = self.in_seconds(ties_closed, book, ties)
        left = self.in_seconds(ties_thinned, book, ties)
        self.assertEqual(ties_closed(book, left), closed)
        for states in bunches + [states_of(book)]:
            least = self.in_seconds(least_key, book, start, ties, states)
            self.assertEqual(least is not None, any([set(states) <= set(bunch) for bunch in bunches]))
        for root in roots:
            self.in_seconds(first_states, book, start, root)
            for word in words:
                self.says(True, is_asked(book, start, (root, word)))
                led = self.in_seconds(leads_to, book, start, ties, (root, word))
                self.assertIn(led, bunches)
                self.assertEqual(led, sorted(plain_leads(book, start, ties, (root, word))))

    def test_states(self):
        for count in range(12):
            dice, book, start = widest(count, [("derive", "make"), ("derive",), ("derive", "copy", "wrap")][count % 3])
            words = [tuple(dice.some(LABELS, 10)) for _ in range(2)]
            for ties in ([], dice.mixed(all_ties(book)), dice.mixed(all_ties(book))[:8]):
                self.asked(book, start, ties, words)

    def machines(self, dice, book, start):
        """Ask all of section 8."""
        least = self.in_seconds(least_machine, book, start)
        self.says(True, self.in_seconds(is_closed, book, start, least))
        self.assertIsNone(self.in_seconds(machine_lack, book, start, [part[::-1] for part in least]))
        self.assertEqual(self.in_seconds(machine_wants, book, start, least), least)
        every = (dice.mixed(all_ties(book)), dice.mixed(all_pairs(book)))
        self.assertEqual(self.in_seconds(machines_met, book, every, as_lists(least)), least)
        self.assertEqual(self.in_seconds(grown, book, start, every), (all_ties(book), all_pairs(book)))
        self.assertEqual(self.in_seconds(grown, book, start, ([], [])), least)
        return least

    def test_machines(self):
        sizes = []
        for count in range(30):
            dice, book, start = widest(count)
            ties, _ = self.machines(dice, book, start)
            sizes.append(len(ties))
            house = played(book, start, some_log(dice, book, start, 60))
            self.assertEqual(self.in_seconds(strays, book, start, ties, house), ([], []))
        self.assertGreater(max(sizes), 20)

    def test_strays_of_long_words(self):
        book = Book(["a"], ["x"], [("derive", "a", "x", "a"), ("bring", "a"), ("seal", "a"), ("show", "a")])
        house, thing = House(book, [["a"]]), (("own", 0), ("x",) * 10)
        house.call(("bring", "a", thing))
        for number in range(40):
            house.call(("derive", number, "x", "a"))
        for _ in range(18):
            thing = house.call(("seal", 0, thing))
        house.call(("show", 2))
        told = self.in_seconds(strays, book, [["a"]], [("known", "a")], house)
        self.assertEqual(told, ([], [(("given", 0), ("x",))]))

    def rows(self, dice, book, start, many):
        """Return so many right rows: first all that say something new, then any."""
        rows, said = [], []
        while len(rows) < many:
            right = sorted(plain_rows(book, start, said), key=repr)
            fresh = {}
            for row, says, _ in right:
                if says not in said:
                    fresh.setdefault(says, row)
            more = list(fresh.items()) or [(says, row) for row, says, _ in dice.some(right, many - len(rows))]
            rows += [row for _, row in more]
            said += [says for says, _ in more]
        return rows[:many], said[:many]

    def test_three_hundred_rows(self):
        for count in range(4):
            dice, book, start = widest(count)
            rows, said = self.rows(dice, book, start, 300)
            self.assertEqual([row_says(book, start, rows, index) for index in (0, 150, 299)], [said[0], said[150], said[299]])
            asked, root = (0, ()), start[0][0]
            self.says(True, self.in_seconds(is_proof, book, start, asked, root, (rows, root, [])))
            self.assertEqual(self.in_seconds(proof_fault, book, start, asked, root, (rows + [rows[0][:1]], root, [])), ("row", 300))
            self.assertEqual(set(said), facts_in(least_machine(book, start)))

    def test_proofs_and_ranks(self):
        told = {True: 0, False: 0}
        for count in range(12):
            dice, book, start = widest(count + 40)
            ranks = self.in_seconds(machine_ranks, book, start)
            self.assertIsNone(self.in_seconds(ranks_fault, book, start, ranks))
            for root in roots_of(book, start):
                asked = (root, dice.some(LABELS, 10))
                led = leads_to(book, start, list(ranks[0]), asked)
                for state in states_of(book):
                    proof = self.in_seconds(told_proof, book, start, asked, state)
                    told[state in led] += 1
                    self.assertEqual(proof is not None, state in led)
                    self.assertEqual(self.in_seconds(asked_rank, book, start, asked, state) is not None, state in led)
                    if proof is not None:
                        self.assertLessEqual(len(proof[0]), 2 * 7 * 7)
                        self.assertIsNone(self.in_seconds(proof_fault, book, start, asked, state, proof))
        self.assertGreater(min(told.values()), 30)

    def test_somewhat_beyond(self):
        dice, roles = Dice(9), ["role" + str(number) for number in range(10)]
        labels = LABELS + ["v", "w"]
        book = Book(roles, labels, dice.mixed(all_permits(roles, labels))[:100])
        start = [sorted(dice.part(roles)) for _ in range(8)]
        self.machines(dice, book, start)
        self.assertTrue(self.in_seconds(bunches_of, book, start, []))
        self.assertIsNone(self.in_seconds(ranks_fault, book, start, machine_ranks(book, start)))
