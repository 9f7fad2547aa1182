"""A slow plain reading of section 15 of the document, written beside the program, not of it; houses that come of a count."""

from tests.plain import HANDLES, PlainHouse, Refused, makes_handle
from tests.plainwords import plain_reach
from tests.samples import all_permits, some_call
from underwraps.books import Book
from underwraps.errors import WrapError
from underwraps.several import Houses


class PlainHouses:
    """Several houses, read from 15.1: one list of what came out, one numbering of made keys."""

    def __init__(self, books, starts):
        self.houses = [PlainHouse(book.all_permits(), start) for book, start in zip(books, starts)]
        self.out = []
        for house in self.houses:
            house.out = self.out
        self.made = 0

    def call(self, house, call):
        self.houses[house].made = self.made
        told = self.houses[house].call(call)
        self.made = self.houses[house].made
        return told


def plain_houses(books, starts, log):
    """Return (houses, answers, fault) of a list of pairs of houses' indexes and calls."""
    houses, answers = PlainHouses(books, starts), []
    for index, (house, call) in enumerate(log):
        try:
            answers.append(houses.call(house, call))
        except Refused as refused:
            return houses, answers, (index, refused.why)
    return houses, answers, None


def role_places(permit):
    """Return at which places of a permit roles stand."""
    return [1, 3] if permit[0] == "derive" else list(range(1, len(permit)))


def plain_joined(books, starts):
    """Return joined, by 15.2."""
    roles, permits = [], []
    for house, book in enumerate(books):
        roles += [role + str(house) for role in book.all_roles()]
        for permit in book.all_permits():
            places = role_places(permit)
            permits.append(tuple([part + str(house) if at in places else part for at, part in enumerate(permit)]))
    start = [
        sorted([role + str(house) for house, one in enumerate(starts) for role in one[key]]) for key in range(len(starts[0]))]
    return Book(roles, books[0].all_labels(), permits), start


def first_numbers(books, starts):
    """Return, by house and own number of a start's handle, its number in the house for all."""
    _, start = plain_joined(books, starts)
    order = [(("given", key), role) for key, roles in enumerate(start) for role in roles]
    return {
        (house, number): order.index((key[0], role + str(house)))
        for house, plain in enumerate(PlainHouses(books, starts).houses) for number, (key, role) in enumerate(plain.handles)
    }


def plain_joined_log(books, starts, log):
    """Return joined_log, by 15.3, call by call; and the numbers that handles have in the house for all."""
    _, answers, _ = plain_houses(books, starts, log)
    numbers, told = first_numbers(books, starts), []
    for (house, call), answer in zip(log, answers):
        told.append(joined_call(house, call, numbers))
        if makes_handle(call):
            numbers[(house, answer)] = len(numbers)
    return told, numbers


def joined_call(house, call, numbers):
    """Return a call of a house as one of the house for all."""
    out = list(call)
    for at in range(1, 1 + HANDLES.get(call[0], 0)):
        out[at] = numbers[(house, call[at])]
    for at in {"make": [1], "bring": [1], "copy": [2], "derive": [3], "unwrap": [3]}.get(call[0], []):
        out[at] = call[at] + str(house)
    return tuple(out)


def plain_apart(starts, some):
    """Return (apart, by 15.5; by house and key, the number that it has there)."""
    found = [[list(roles) for roles in start] for start in starts]
    numbers = {(house, key): key for house in range(len(starts)) for key in range(len(starts[0]))}
    for key in some:
        holding = [house for house, start in enumerate(starts) if start[key]]
        for house in holding[1:]:
            numbers[(house, key)] = len(found[0])
            for other, start in enumerate(found):
                start.append(list(starts[house][key]) if other == house else [])
            found[house][key] = []
    return found, numbers


def plain_shared(starts):
    return [key for key in range(len(starts[0])) if len([start for start in starts if start[key]]) > 1]


def comes_out_sharing(books, starts, house, asked, some):
    """Tell whether a house's asked key comes out if just some shared keys are one key in all houses."""
    split, numbers = plain_apart(starts, [key for key in plain_shared(starts) if key not in some])
    book, start = plain_joined(books, split)
    root = asked[0]
    if isinstance(root, int):
        root = numbers[(house, root)]
    elif root != "known":
        root = root + str(house)
    return "known" in plain_reach(book, start, (root, tuple(asked[1])))


class View:
    """One of several houses, as some_call looks at it."""

    def __init__(self, houses, house):
        self.handles = lambda: houses.handles(house)
        self.out = houses.out


WORDS = ("make", "bring", "show", "seal", "open", "copy", "wrap", "unwrap", "derive")


def some_houses(dice, many=3, words=WORDS):
    """Return (books, starts): up to so many houses of one or two roles, at most one label and two given keys."""
    labels, keys = ["x"][:dice.number(2)], dice.number(3)
    books, starts = [], []
    for _ in range(1 + dice.number(many)):
        roles = dice.mixed(["a", "b", "w1"])[:1 + dice.number(2)]
        permits = [permit for permit in all_permits(roles, labels) if permit[0] in words and dice.number(3) == 0]
        books.append(Book(roles, labels, permits))
        starts.append([sorted(dice.part(roles)) for _ in range(keys)])
    return books, starts


def some_houses_log(dice, books, starts, many):
    """Return a log of houses of at most so many calls."""
    houses, log = Houses(books, starts), []
    for _ in range(many * 12):
        house = dice.number(len(books))
        if len(log) < many:
            call = some_call(dice, books[house], View(houses, house))
            try:
                houses.call(house, call)
                log.append((house, call))
            except WrapError:
                pass
    return log
