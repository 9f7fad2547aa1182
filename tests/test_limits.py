"""2.3, 2.4: all is answered in seconds at the limits, and what is told may come beyond them."""

from tests.samples import all_permits
from tests.tools import Dice, WrapCase, as_lists
from underwraps.books import Book, called, is_less, is_start, start_called, used_roles, without
from underwraps.chests import chest_fault, counts, enough_keys, gist
from underwraps.houses import House
from underwraps.logs import (
    in_rounds, left_out, log_answers, log_behind, log_fault, log_rounds, log_tells, permits_used, played, thinned_log,
)
from underwraps.things import depth_of, keys_in, knows
from underwraps.ways import way_fault, way_to

LABELS = ["v", "w", "x", "y", "z"]
O = (("own", 0), ())


def under(keys, thing):
    for key in reversed(keys):
        thing = ("under", key, thing)
    return thing


class TestBooks(WrapCase):
    def test_ten_roles_a_hundred_permits(self):
        dice = Dice(1)
        roles = ["role" + str(number) for number in range(10)]
        permits = dice.mixed(all_permits(roles, LABELS))[:100]
        book = self.in_seconds(Book, roles, LABELS, as_lists(permits))
        names = dict(zip(roles + LABELS, ["p" + str(number) for number in range(15)]))
        start = [sorted(dice.part(roles)) for _ in range(8)]
        self.says(True, self.in_seconds(is_start, book, start))
        self.assertEqual(len(self.in_seconds(called, book, names).all_permits()), 100)
        self.assertEqual(len(self.in_seconds(start_called, book, start, names)), 8)
        self.assertEqual(self.in_seconds(without, book, permits).all_permits(), [])
        self.says(True, self.in_seconds(is_less, without(book, permits[:50]), book))
        self.assertLessEqual(self.in_seconds(used_roles, book), roles)


class TestThings(WrapCase):
    def setUp(self):
        self.book = Book([], LABELS, [])

    def asked(self, things, thing):
        """Ask all of section 4; look that the answers go together."""
        known = self.in_seconds(knows, self.book, things, thing)
        way = self.in_seconds(way_to, self.book, things, thing)
        self.assertEqual(way is not None, known)
        if known:
            self.assertIsNone(self.in_seconds(way_fault, self.book, things, thing, way))
        chest = self.in_seconds(gist, self.book, things)
        self.assertIsNone(self.in_seconds(chest_fault, self.book, things, chest))
        self.assertEqual(self.in_seconds(counts, self.book, chest, thing), known)
        enough = self.in_seconds(enough_keys, self.book, things, thing)
        self.assertEqual(enough == [], known or thing[0] == "under")
        for key in enough:
            self.says(True, knows(self.book, things + [key], thing))
        return known, way, enough

    def test_a_chain(self):
        keys = [(("made", number), tuple(LABELS * 2 + ["v", "x"])) for number in range(40)]
        things = [under([key] * 8, later) for key, later in zip(keys, keys[1:])] + [keys[0]]
        known, way, _ = self.asked(things, keys[39])
        self.assertTrue(known)
        self.assertGreater(len(way), 300)
        _, _, enough = self.asked(things[:39], keys[39])
        self.assertEqual(enough, sorted(keys))

    def test_a_ring_that_any_key_opens(self):
        dice = Dice(3)
        keys = [(("given", number % 3), tuple(dice.some(LABELS, 12))) for number in range(300)]
        things = [under(dice.some(keys, 8), dice.one(keys)) for _ in range(40)]
        self.asked(things, (("made", 0), ()))
        opened = [under([(("given", 0), tuple(LABELS[:number % 5]) * 2)], (("given", 0), ())) for number in range(39)]
        self.asked(opened + [under(keys[:8], (("made", 7), ()))], (("made", 7), ()))

    def test_keys_that_part_everywhere(self):
        dice = Dice(4)
        keys = [(("given", 0), tuple(dice.some(["x", "y"], 12))) for _ in range(320)]
        base = (("given", 0), ())
        things = [under(keys[8 * at:8 * at + 8], base) for at in range(39)] + [under(keys[312:], (("made", 0), ()))]
        _, _, enough = self.asked(things, (("made", 0), ()))
        self.assertTrue(enough)

    def test_told_beyond(self):
        thing = under([(("given", 0), tuple(LABELS * 40))] * 300, O)
        self.assertEqual(depth_of(self.book, thing), 300)
        self.assertEqual(keys_in(self.book, thing), [(("given", 0), tuple(LABELS * 40)), O])
        self.says(True, self.in_seconds(knows, self.book, [(("given", 0), ())], thing))
        way = self.in_seconds(way_to, self.book, [(("given", 0), ())], thing)
        self.assertIsNone(self.in_seconds(way_fault, self.book, [(("given", 0), ())], thing, way))
        self.assertEqual(gist(self.book, [thing]), ([], [thing]))

    def test_two_hundred_steps(self):
        way = [("own", 0)] + [("close", 0, number) for number in range(199)]
        self.assertIsNone(self.in_seconds(way_fault, self.book, [], under([O] * 199, O), way))
        way = [("own", 0)] + [("next", number, "x") for number in range(199)]
        self.assertIsNone(self.in_seconds(way_fault, self.book, [], (("own", 0), ("x",) * 199), way))


class TestLogs(WrapCase):
    def asked(self, book, start, log, key):
        """Ask all of section 6 of a log that tells a key."""
        self.assertIsNone(self.in_seconds(log_fault, book, start, log))
        self.assertEqual(len(self.in_seconds(log_answers, book, start, log)), len(log))
        self.says(True, self.in_seconds(log_tells, book, start, log, key))
        self.in_seconds(permits_used, book, start, log)
        for index in range(len(log)):
            self.in_seconds(left_out, book, start, log, index)
        thin, led = self.in_seconds(thinned_log, book, start, log, key)
        self.says(True, log_tells(book, start, thin, led))
        rounds = self.in_seconds(log_rounds, book, start, log)
        self.assertEqual(log_rounds(book, start, self.in_seconds(in_rounds, book, start, log)), sorted(rounds))
        both = self.in_seconds(log_behind, book, start, log[:30], log[:30])
        self.assertIsNone(log_fault(book, start, both))
        return thin

    def test_sixty_seals_and_opens(self):
        book = Book(["a"], [], [("seal", "a"), ("open", "a"), ("show", "a")])
        log, thing = [], under([O] * 6, O)
        for _ in range(30):
            log.append(("seal", 0, thing))
            thing = ("under", (("given", 0), ()), thing)
        for _ in range(29):
            log.append(("open", 0, thing))
            thing = thing[2]
        log.append(("show", 0))
        self.assertEqual(self.asked(book, [["a"]], log, (("given", 0), ())), [("show", 0)])
        # What is shown last may be shown first: so all else needs one round more, not thirty.
        self.assertEqual(max(log_rounds(book, [["a"]], log)), 2)
        self.assertEqual(max(self.in_seconds(log_rounds, book, [["a"]], log[:-1])), 31)
        deep = played(book, [["a"]], log).out()[29]
        self.assertEqual(depth_of(book, deep), 36)

    def test_a_long_chain_that_is_needed(self):
        book = Book(["a"], ["x"], [("derive", "a", "x", "a"), ("wrap", "a", "a"), ("open", "a"), ("show", "a")])
        log = [("derive", number, "x", "a") for number in range(30)]
        key = [(("given", 0), ("x",) * number) for number in range(31)]
        log += [("wrap", number, number - 1) for number in range(30, 1, -1)] + [("show", 30)]
        thin = self.asked(book, [["a"]], log, key[1])
        self.assertEqual(thin, log)

    def test_makes(self):
        book = Book(["a", "d"], [], [("make", "a"), ("make", "d"), ("wrap", "a", "d"), ("open", "a"), ("copy", "d", "a")])
        log = []
        for number in range(12):
            log += [("make", "a"), ("make", "d"), ("wrap", 3 * number, 3 * number + 1), ("copy", 3 * number + 1, "a")]
            made = [(("made", 2 * number + more), ()) for more in range(2)]
            log.append(("open", 3 * number, ("under", made[0], made[1])))
        thin = self.asked(book, [], log, (("made", 23), ()))
        self.assertEqual(len(thin), 4)

    def test_a_house_of_many_calls(self):
        book = Book(["a"], ["x"], [("make", "a"), ("wrap", "a", "a"), ("derive", "a", "x", "a"), ("seal", "a")])

        def calls():
            house = House(book, [["a"]] * 4)
            for number in range(300):
                house.call(("make", "a"))
                that = house.call(("wrap", number, number + 1))
                house.call(("seal", 0, that))
            return house
        house = self.in_seconds(calls)
        self.assertEqual(len(house.out()), 600)
        self.assertEqual(house, self.in_seconds(house.copy))
