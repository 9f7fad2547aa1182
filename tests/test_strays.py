"""8.4: which handles and known keys stray from where ties lead them."""

from tests.plain import parts, is_under, saturated
from tests.plainrules import all_ties, plain_leads
from tests.samples import some_case
from tests.tools import Dice, WrapCase, empties, odd_things
from underwraps.books import Book
from underwraps.errors import BadHouse
from underwraps.houses import House
from underwraps.logs import played
from underwraps.machines import grown, least_machine
from underwraps.strays import strays

PERMITS = [("make", "a"), ("make", "d"), ("open", "a"), ("wrap", "a", "d")]
BOOK = Book(["a", "d"], [], PERMITS)
G, M, O = (("given", 0), ()), (("made", 0), ()), (("own", 0), ())

WIDE = Book(["a", "b"], ["x"], [
    ("make", "a"), ("bring", "a"), ("show", "b"), ("copy", "a", "b"), ("derive", "a", "x", "b"), ("wrap", "a", "b"),
    ("unwrap", "a", "b"), ("seal", "a"), ("open", "a"),
])


def behind(book, start, *calls):
    house = House(book, start)
    for call in calls:
        house.call(call)
    return house


class TestExample(WrapCase):
    def test_8_5(self):
        house = behind(BOOK, [], ("make", "a"), ("make", "d"), ("wrap", 0, 1))
        house.call(("open", 0, house.out()[0]))
        self.assertEqual(strays(BOOK, [], [], house), ([], [(("made", 1), ())]))


class TestStrays(WrapCase):
    def test_nothing_called(self):
        self.assertEqual(strays(BOOK, [], [], House(BOOK, [])), ([], []))
        start = [["a"], [], ["a", "b"]]
        self.assertEqual(strays(house=House(WIDE, start), ties=(), start=start, book=WIDE), ([], []))
        self.assertEqual(strays(Book([], [], []), [[]], [], House(Book([], [], []), [[]])), ([], []))

    def test_each_kind_of_handle(self):
        x = (("given", 0), ("x",))
        calls = [
            ("make", "a"), ("copy", 1, "b"), ("derive", 0, "x", "b"), ("bring", "a", O), ("bring", "a", (("own", 3), ("x",))),
            ("copy", 0, "b"), ("show", 6), ("show", 3), ("wrap", 0, 3), ("unwrap", 0, ("under", G, x), "b"),
        ]
        house = behind(WIDE, [["a"]], *calls)
        self.assertEqual([role for _, role in house.handles()], ["a", "a", "b", "b", "a", "a", "b", "b"])
        for ties, told in [
            ([], ([2, 4, 5, 6], [G])), ([("a", "b")], ([4, 5], [G])), ([("known", "a")], ([2, 6], [G])),
            ([("known", "b"), ("a", "known")], ([4, 5], [])), ([("a", "b"), ("b", "known"), ("known", "a")], ([], [])),
        ]:
            self.assertEqual(strays(WIDE, [["a"]], ties, house), told)
            self.assertEqual(strays(WIDE, (("a",),), [list(tie) for tie in ties][::-1], house), told)

    def test_known_keys_alone_and_least_ones(self):
        house = behind(WIDE, [["a"]], ("derive", 0, "x", "b"), ("show", 1), ("show", 1))
        self.assertEqual(strays(WIDE, [["a"]], [], house), ([], [(("given", 0), ("x",))]))
        house.call(("copy", 0, "b"))
        house.call(("show", 2))
        self.assertEqual(strays(WIDE, [["a"]], [], house), ([2], [G]))
        self.assertEqual(strays(WIDE, [["a"]], [("a", "b")], house), ([], [G]))
        # Led to "known" as it is derived, not as it was given.
        self.assertEqual(strays(WIDE, [["a"]], [("b", "known")], house), ([2], [G]))

    def test_made_with_which_role(self):
        book = Book(["a", "b"], [], [("make", "a"), ("make", "b"), ("copy", "a", "b"), ("copy", "b", "a"), ("show", "a")])
        house = behind(book, [], ("make", "b"), ("make", "a"), ("copy", 0, "a"), ("copy", 1, "b"), ("show", 2), ("show", 1))
        self.assertEqual(strays(book, [], [("a", "b")], house), ([2], [M, (("made", 1), ())]))
        self.assertEqual(strays(book, [], [("b", "a")], house), ([3], [M, (("made", 1), ())]))
        self.assertEqual(strays(book, [], [("a", "known")], house), ([2, 3], [M]))

    def test_bad_house(self):
        start = [["a"], []]
        less = Book(["a", "b"], ["x"], WIDE.all_permits()[1:])
        wrong = [
            House(less, start), House(Book(["a", "b", "c"], ["x"], WIDE.all_permits()), start), House(WIDE, []),
            House(WIDE, [["a"]]), House(WIDE, [["a"], ["a"]]), House(WIDE, [["a", "b"], []]), House(WIDE, [[], ["a"]]),
            House, WIDE, start,
        ]
        for thing in odd_things() + empties() + wrong:
            self.raises(BadHouse, thing, strays, WIDE, start, [], thing)
        for house in (House(Book(["b", "a"], ["x"], WIDE.all_permits()[::-1]), (("a",), ())), played(WIDE, start, [])):
            self.assertEqual(strays(WIDE, start, [], house), ([], []))

    def test_the_house_stays(self):
        house = behind(WIDE, [["a"]], ("copy", 0, "b"), ("show", 1))
        before = house.copy()
        told = strays(WIDE, [["a"]], [], house)
        told[0].append(9)
        told[1].clear()
        self.assertEqual(house, before)
        self.assertEqual(strays(WIDE, [["a"]], [], house), ([1], [G]))


def plain_strays(book, start, ties, log, house):
    """Return strays, by 8.4, with made keys' roles from the log's make calls."""
    made = [call[1] for call in log if call[0] == "make"]
    known = saturated(house.out(), set().union(*[parts(thing) for thing in house.out()]))
    keys = [key for key in known if not is_under(key) and key[0][0] != "own"]
    least = sorted([key for key in keys if not (key[1] and (key[0], key[1][:-1]) in keys)])

    def led(key):
        (word, number), labels = key
        root = {"given": number, "made": made[number] if word == "made" else None, "own": "known"}[word]
        return plain_leads(book, start, ties, (root, labels))

    return (
        [number for number, (key, role) in enumerate(house.handles()) if role not in led(key)],
        [key for key in least if "known" not in led(key)],
    )


class TestItHolds(WrapCase):
    def test_8_4(self):
        known = handles = numbers = keys = 0
        for count in range(250):
            dice = Dice(count)
            book, start, log = some_case(dice, 14)
            house = played(book, start, log)
            machine = least_machine(book, start)
            self.assertEqual(strays(book, start, machine[0], house), ([], []))
            more = [tie for tie in all_ties(book) if dice.number(3) == 0]
            self.assertEqual(strays(book, start, grown(book, start, (more, []))[0], house), ([], []))
            known += len(house.known_keys())
            handles += len(house.handles())
            for ties in (more, [], [tie for tie in machine[0] if dice.number(3)]):
                told = strays(book, start, dice.mixed(ties), house)
                self.assertEqual(told, plain_strays(book, start, ties, log, house))
                numbers += len(told[0])
                keys += len(told[1])
        self.assertGreater(known, 100)
        self.assertGreater(handles, 1000)
        self.assertGreater(numbers, 300)
        self.assertGreater(keys, 50)
