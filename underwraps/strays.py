"""Strays: handles and known keys that are where ties do not lead them."""

from underwraps.books import need_book, start_rows
from underwraps.errors import BadHouse
from underwraps.houses import House
from underwraps.leading import states_led
from underwraps.origins import asked_of, first_roles
from underwraps.paths import Paths
from underwraps.ties import need_ties


def need_house_of(book, given, house):
    """Raise BadHouse for what is no House of this book and of given keys with these roles."""
    if not isinstance(house, House) or house.book() != book:
        raise BadHouse(house)
    if [tuple(row) for row in house.start()] != list(given):
        raise BadHouse(house)


def strays(book, start, ties, house):
    """Return the numbers of the handles, and the known keys, that are where ties do not lead them."""
    need_book(book)
    given = start_rows(book, start)
    paths = Paths(book, need_ties(book, ties))
    need_house_of(book, given, house)
    handles = house.handles()
    roles = first_roles(handles)
    numbers = [
        number
        for number, (key, role) in enumerate(handles)
        if role not in states_led(paths, given, asked_of(roles, key))
    ]
    keys = [key for key in house.known_keys() if "known" not in states_led(paths, given, asked_of(roles, key))]
    return (numbers, keys)
