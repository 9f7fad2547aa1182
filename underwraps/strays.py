"""Strays: handles and known keys that are where ties do not lead them."""

from underwraps.books import need_book, start_rows
from underwraps.errors import BadHouse
from underwraps.houses import House
from underwraps.leading import states_led
from underwraps.paths import Paths
from underwraps.ties import need_ties


def need_house(book, given, house):
    """Raise BadHouse for what is no House of this book and of given keys with these roles."""
    if not isinstance(house, House) or house.book() != book:
        raise BadHouse(house)
    if [tuple(row) for row in house.start()] != list(given):
        raise BadHouse(house)


def first_roles(handles):
    """Return a dict from each base of the keys of handles to the role of its first one."""
    roles = {}
    for (base, _), role in handles:
        roles.setdefault(base, role)
    return roles


def asked_of(roles, key):
    """Return the asked key of which a key is one, its base's first handle having such a role."""
    base, word = key
    if base[0] == "given":
        return (base[1], word)
    # The first handle of a key that was made is the one by which it was made.
    return ("known" if base[0] == "own" else roles[base], word)


def strays(book, start, ties, house):
    """Return the numbers of the handles, and the known keys, that are where ties do not lead them."""
    need_book(book)
    given = start_rows(book, start)
    paths = Paths(book, need_ties(book, ties))
    need_house(book, given, house)
    handles = house.handles()
    roles = first_roles(handles)
    numbers = [
        number
        for number, (key, role) in enumerate(handles)
        if role not in states_led(paths, given, asked_of(roles, key))
    ]
    keys = [key for key in house.known_keys() if "known" not in states_led(paths, given, asked_of(roles, key))]
    return (numbers, keys)
