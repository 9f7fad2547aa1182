"""Ties, closed and thinned: which of them say the same."""

from underwraps.books import need_book
from underwraps.errors import BadTies
from underwraps.forms import first_wrong, is_list
from underwraps.paths import all_reached, by_first
from underwraps.states import is_state, states_of


def read_pair(book, thing):
    """Return the pair of states that any object is, None if it is none."""
    if not is_list(thing) or len(thing) != 2 or not all([is_state(book, part) for part in thing]):
        return None
    return tuple(thing)


def read_tie(book, thing):
    """Return the tie that any object is, None if it is none."""
    pair = read_pair(book, thing)
    return None if pair is None or pair[0] == pair[1] else pair


def need_ties(book, ties):
    """Return the list of the ties that are passed; raise BadTies for the first thing that is none."""
    if not is_list(ties):
        raise BadTies(0)
    found = [read_tie(book, thing) for thing in ties]
    wrong = first_wrong(found)
    if wrong is not None:
        raise BadTies(wrong)
    return found


def ties_closed(book, ties):
    """Return the ascending list of the ties that come of some, one behind another."""
    need_book(book)
    overs = by_first(need_ties(book, ties))
    return [
        (state, later)
        for state in states_of(book)
        for later in all_reached(overs, [state])
        if later != state
    ]


def ties_thinned(book, ties):
    """Return the ascending list of the ties that are left if each goes that the others left make up for."""
    need_book(book)
    left = sorted(need_ties(book, ties))
    for tie in list(left):
        others = [other for other in left if other != tie]
        if tie[1] in all_reached(by_first(others), [tie[0]]):
            left = others
    return left
