"""Books with custodies, and custody logs, that come of a fixed count."""

from tests.plaincustody import PlainCustodyHouse, names_of
from tests.plain import Refused
from tests.samples import all_permits, some_call, some_key
from tests.tools import Dice
from underwraps.books import Book

NAMES = ["ann", "bob", "cyd"]


class Shown:
    """What some_call asks of a house."""

    def __init__(self, house):
        self.house = house

    def handles(self):
        return self.house.handles

    def out(self):
        return self.house.out


def some_custody(count, share=4):
    """Return (dice, book, start, custody, tellers) of at most three roles, two labels and three custodians."""
    dice = Dice(count)
    roles, labels = ["a", "b", "c"][:dice.number(4)], ["x", "y"][:dice.number(3)]
    words = ("make", "wrap", "unwrap", "seal", "open", "derive", "copy") + (("bring", "show") if count % 4 == 0 else ())
    every = [permit for permit in all_permits(roles, labels) if permit[0] in words]
    book = Book(roles, labels, [permit for permit in every if dice.number(share) == 0])
    start = [sorted(dice.part(roles)) for _ in range(dice.number(3))]
    pairs = [(role, name) for role in roles for name in NAMES]
    parts = [pair for pair in dice.mixed(pairs) if dice.number(2)]
    custody = (dice.one([1, 2, 2, 3]), parts, dice.part(dice.mixed(roles)))
    return dice, book, start, custody, dice.part(names_of(custody))


def some_custody_call(dice, book, house, custody):
    """Return a call, let or not, of a plain house with custodians."""
    kind = dice.number(5)
    if kind == 0:
        return ("part", dice.number(len(house.handles) + 1), dice.one(NAMES))
    if kind == 1 and book.all_roles():
        held = [key for key, _ in house.handles] + [key for key, _ in house.got] + [some_key(dice, book.all_labels())]
        return ("join", dice.one(held), dice.one(book.all_roles()))
    return some_call(dice, book, Shown(house)) if book.all_roles() else ("show", dice.number(3))


def some_custody_log(dice, book, start, custody, tellers, many):
    """Return (a custody log of at most many calls, the plain house behind it)."""
    house, log = PlainCustodyHouse(book.all_permits(), start, custody, tellers), []
    for _ in range(many * 12):
        if len(log) < many:
            call = some_custody_call(dice, book, house, custody)
            try:
                house.call(call)
                log.append(call)
            except Refused:
                pass
    return log, house
