"""Strays: handles and known keys that are where ties do not lead them."""

from underwraps.books import need_book, start_rows
from underwraps.errors import BadHouse
from underwraps.houses import House
from underwraps.paths import Paths
from underwraps.states import root_states
from underwraps.ties import need_ties


def need_house(book, given, house):
    """Raise BadHouse for what is no House of this book and of given keys with these roles."""
    if not isinstance(house, House) or house.book() != book:
        raise BadHouse(house)
    if [tuple(row) for row in house.start()] != list(given):
        raise BadHouse(house)


def base_roots(handles):
    """Return a dict from each given and made base of the keys of handles to its root."""
    roots = {}
    for (base, word), role in handles:
        # A base's first handle has the role with which it was made: nothing is led anywhere ahead of it.
        if base[0] != "own" and base not in roots:
            roots[base] = base[1] if base[0] == "given" else role
    return roots


def states_led(paths, given, roots, key):
    """Return the states to which ties lead the asked key of which a key of a house is one."""
    base, word = key
    root = "known" if base[0] == "own" else roots[base]
    return paths.led(root_states(given, root), word)


def strays(book, start, ties, house):
    """Return the numbers of the handles, and the known keys, that are where ties do not lead them."""
    need_book(book)
    given = start_rows(book, start)
    paths = Paths(book, need_ties(book, ties))
    need_house(book, given, house)
    handles = house.handles()
    roots = base_roots(handles)
    numbers = [
        number
        for number, (key, role) in enumerate(handles)
        if role not in states_led(paths, given, roots, key)
    ]
    known = [key for key in house.known_keys() if "known" not in states_led(paths, given, roots, key)]
    return (numbers, known)
