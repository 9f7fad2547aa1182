"""16.6, 16.7: prices, the cheapest lot that keeps, barring trees."""

from tests.plaintiers import all_lots
from tests.test_lots import BARE, BOOK, BRING, MAKE, MAKE_D, OPEN, PERMITS, SECRETS, TELLING, WRAP, plain_keeps, some_lots
from tests.tools import Dice, Hostile, Odd, WrapCase, as_lists, as_tuples, empties, odd_things, ring
from underwraps.books import Book
from underwraps.lotprices import barring_tree, cheapest_lot, is_barring
from underwraps.refusals import BadPrice, BadPrices

PRICES = {BRING: 1, MAKE: 1, MAKE_D: 5, OPEN: 1, WRAP: 5}
NO_PRICES = odd_things() + empties() + [
    {permit: 1 for permit in PERMITS[1:]}, PRICES | {("show", "a"): 1}, PRICES | {"make": 1}, PRICES | {BRING: -1}, PRICES | {BRING: True},
    PRICES | {BRING: None}, PRICES | {WRAP: "1"}, PRICES | {WRAP: 1.0}, PRICES | {WRAP: Hostile()}, PRICES | {WRAP: [1]},
    {permit: 1 for permit in PERMITS[1:] + [("show", "a")]}, list(PRICES.items()), sorted(PRICES), {0: PRICES}, {Odd(): 1 for _ in range(5)},
]


def some_shown(count):
    """Return (dice, book, start, secrets) where several permits let secrets out, each by itself."""
    if count % 2:
        return some_lots(count, 7)
    dice, roles = Dice(count), ["a", "b", "c"]
    shows = [("show", role) for role in roles] + [("copy", r, s) for r in roles for s in roles if r != s]
    start = [["a"], ["b"], ["a", "c"], ["c"]]
    return dice, Book(roles, [], dice.mixed(shows)[:7]), start, dice.some([(at, ()) for at in range(4)], 3)


def plain_tells(book, start, secrets, lot):
    return not plain_keeps(book, start, secrets, lot)


def plain_cheapest(book, start, secrets, prices):
    """Return cheapest_lot, going through all lots: those that keep while no lesser part does."""
    keep = [lot for lot in all_lots(book.all_permits()) if plain_keeps(book, start, secrets, set(book.all_permits()) - lot)]
    least = [sorted(lot) for lot in keep if not any([other < lot for other in keep])]
    return min([(sum([prices[permit] for permit in lot]), lot) for lot in least])


def plain_barring(book, start, secrets, prices, price, tree, taken=()):
    """Tell whether a tree whose form is right, made of tuples, is a right one, place by place."""
    if tree == ("enough",):
        return sum([prices[permit] for permit in set(taken)]) >= price
    _, lot, trees = tree
    if set(lot) & set(taken) or not plain_tells(book, start, secrets, set(lot)):
        return False
    return all([plain_barring(book, start, secrets, prices, price, tree, (*taken, permit)) for permit, tree in zip(lot, trees)])


def places_in(tree):
    """Return all places of a tree, as roads of indexes."""
    if tree[0] == "enough":
        return [()]
    return [()] + [(at, *road) for at, part in enumerate(tree[2]) for road in places_in(part)]


def changed(tree, road, part):
    """Return a tree, made of tuples, with another one at a place."""
    if not road:
        return part
    trees = list(tree[2])
    trees[road[0]] = changed(trees[road[0]], road[1:], part)
    return ("told", tree[1], tuple(trees))


class TestExample(WrapCase):
    def test_16_7(self):
        self.assertEqual(cheapest_lot(BOOK, [], SECRETS, PRICES), (2, [BRING, MAKE]))
        tree = barring_tree(BOOK, [], SECRETS, PRICES)
        self.assertEqual(tree[0], "told")
        self.assertIn(tree[1], TELLING)
        self.says(True, is_barring(BOOK, [], SECRETS, PRICES, 2, tree))
        self.says(False, is_barring(BOOK, [], SECRETS, PRICES, 3, tree))


class TestCheapest(WrapCase):
    def test_edges(self):
        self.assertEqual(cheapest_lot(BARE, [], [], {}), (0, []))
        self.assertEqual(barring_tree(BARE, [[]], [(0, ())], {}), ("enough",))
        self.assertEqual(cheapest_lot(BOOK, [], [], PRICES), (0, []))
        none = {permit: 0 for permit in PERMITS}
        self.assertEqual(cheapest_lot(BOOK, [], SECRETS, none), (0, [BRING, MAKE]))
        self.assertEqual(barring_tree(BOOK, [], SECRETS, none), ("enough",))
        self.assertEqual(cheapest_lot(BOOK, [], SECRETS, none | {BRING: 1}), (0, [MAKE_D]))
        self.assertEqual(cheapest_lot(BOOK, [], SECRETS, none | {MAKE_D: 1, WRAP: 1, OPEN: 1, MAKE: 1}), (1, [BRING, MAKE]))
        self.assertEqual(cheapest_lot(BOOK, [], SECRETS, {permit: 1000 for permit in PERMITS}), (1000, [MAKE_D]))
        self.assertEqual(cheapest_lot(BOOK, [], SECRETS, PRICES | {MAKE_D: 2}), (2, [BRING, MAKE]))
        self.assertEqual(cheapest_lot(BOOK, [], SECRETS, PRICES | {MAKE: 10 ** 30, OPEN: 10 ** 30}), (5, [MAKE_D]))

    def test_forms(self):
        other = dict(reversed(list(PRICES.items())))
        for shape in (as_lists, as_tuples):
            told = cheapest_lot(prices=other, secrets=shape(SECRETS), start=shape([]), book=BOOK)
            self.assertEqual(repr(told), "(2, [('bring', 'a'), ('make', 'a')])")
            tree = barring_tree(prices=other, secrets=shape(SECRETS), start=shape([]), book=BOOK)
            self.assertEqual(repr(tree), repr(barring_tree(BOOK, [], SECRETS, PRICES)))
            for part in (tree, shape(tree), as_lists(tree), as_tuples(tree)):
                self.says(True, is_barring(thing=part, price=2, prices=other, secrets=shape(SECRETS), start=shape([]), book=BOOK))

    def test_bad_prices(self):
        for thing in NO_PRICES:
            self.raises(BadPrices, thing, cheapest_lot, BOOK, [], SECRETS, thing)
            self.raises(BadPrices, thing, barring_tree, BOOK, [], SECRETS, thing)
            self.raises(BadPrices, thing, is_barring, BOOK, [], SECRETS, thing, Hostile(), Hostile())

    def test_bad_price(self):
        for thing in [-1, True, False, None, "0", 1.0, [1], Odd(), Hostile(), ring(), {}]:
            self.raises(BadPrice, thing, is_barring, BOOK, [], SECRETS, PRICES, thing, Hostile())

    def test_16_6_cheapest(self):
        dear = 0
        for count in range(150):
            dice, book, start, secrets = some_shown(count)
            prices = {permit: dice.one([0, 1, 1, 2, 3, 1000]) for permit in dice.mixed(book.all_permits())}
            told = cheapest_lot(book, start, secrets, prices)
            self.assertEqual(told, plain_cheapest(book, start, secrets, prices))
            dear += len(told[1]) > 1
            self.says(True, is_barring(book, start, secrets, prices, told[0], barring_tree(book, start, secrets, prices)))
        self.assertGreater(dear, 20)


class TestBarring(WrapCase):
    def test_small_ones(self):
        tree = ("told", TELLING[0], [("enough",)] * 3)
        for price, wanted in ((0, True), (1, True), (2, False)):
            self.says(wanted, is_barring(BOOK, [], SECRETS, PRICES, price, tree))
        self.says(True, is_barring(BOOK, [], SECRETS, PRICES, 0, ["enough"]))
        self.says(False, is_barring(BOOK, [], SECRETS, PRICES, 1, ["enough"]))
        wide = ("told", PERMITS, [("enough",)] * 5)
        self.says(True, is_barring(BOOK, [], SECRETS, PRICES, 1, wide))
        below = ("told", TELLING[1], [("enough",)] * 4)
        for first, wanted in ((below, True), (tree, False), (wide, False)):
            self.says(wanted, is_barring(BOOK, [], SECRETS, PRICES, 2, ("told", TELLING[0], [first, ("enough",), ("enough",)])))

    def test_what_is_none(self):
        e = ("enough",)
        for thing in odd_things() + empties() + [
            "enough", ("enough", 0), ("told",), ("told", TELLING[0]), ("told", TELLING[0], [e] * 3, 0), ("told", TELLING[0], [e] * 2),
            ("told", TELLING[0], [e] * 4), ("told", TELLING[0], e), ("told", TELLING[0][::-1], [e] * 3), ("told", [MAKE_D, WRAP], [e] * 2),
            ("told", [], []), ("told", TELLING[0] + [WRAP], [e] * 4), ("told", TELLING[0], {0: e, 1: e, 2: e}), ("told", "abc", [e] * 3),
            ("told", TELLING[0], "eee"), ("told", TELLING[0], [e, e, None]), ("told", TELLING[0], [e, e, Hostile()]), ("Told", TELLING[0], [e] * 3),
            (b"told", TELLING[0], [e] * 3), ("told", Hostile(), [e] * 3), ("told", TELLING[0], Hostile()), (Hostile(), TELLING[0], [e] * 3),
            ("told", [BRING, MAKE_D, ("wrap", "d", "a")], [e] * 3), ("told", [BRING, MAKE_D, None], [e] * 3), {"told": 1}, e[0], [e], ["Enough"],
        ]:
            self.says(False, is_barring(BOOK, [], SECRETS, PRICES, 0, thing) and thing != ["enough"])
        tree = ["told", TELLING[0], None]
        tree[2] = [tree, tree, tree]
        self.says(False, is_barring(BOOK, [], SECRETS, PRICES, 0, tree))

    def test_a_tree_that_holds_one_tree_twice(self):
        e = ("enough",)
        both = ("told", TELLING[1], [e] * 4)
        self.says(False, is_barring(BOOK, [], SECRETS, PRICES, 1, ("told", TELLING[0], [both] * 3)))
        self.says(True, is_barring(BOOK, [], SECRETS, PRICES, 1, ("told", TELLING[0], [both, e, e])))

    def test_16_6_trees(self):
        said = {True: 0, False: 0}
        for count in range(110):
            dice, book, start, secrets = some_shown(count)
            prices = {permit: dice.number(4) for permit in book.all_permits()}
            price, _ = plain_cheapest(book, start, secrets, prices)
            tree = as_tuples(barring_tree(book, start, secrets, prices))
            self.says(True, plain_barring(book, start, secrets, prices, price, tree))
            every = [sorted(lot) for lot in all_lots(book.all_permits())]
            for _ in range(8):
                lot = dice.one(every)
                part = dice.one([("enough",), ("told", tuple(lot), (("enough",),) * len(lot)), tree])
                other, asked = changed(tree, dice.one(places_in(tree)), part), dice.number(price + 2)
                wanted = plain_barring(book, start, secrets, prices, asked, other)
                self.says(wanted, is_barring(book, start, secrets, prices, asked, as_lists(other)))
                # Just one of both: whoever shows a tree for a price shows that no lot that keeps costs less.
                self.assertFalse(wanted and asked > price)
                said[wanted] += 1
        self.assertGreater(min(said.values()), 100)
