"""Where ties lead asked keys, and to which two states at once."""

from underwraps.books import need_book, start_rows
from underwraps.paths import Paths, all_reached
from underwraps.states import all_roots, need_asked, root_states, states_of
from underwraps.ties import need_ties


def states_led(paths, given, asked):
    """Return, ascending, the states to which paths lead an asked key."""
    root, word = asked
    found = paths.over(root_states(given, root))
    for label in word:
        found = paths.by(found, label)
    return found


def leads_to(book, start, ties, asked):
    """Return the ascending list of the states to which ties lead an asked key."""
    need_book(book)
    given = start_rows(book, start)
    paths = Paths(book, need_ties(book, ties))
    return list(states_led(paths, given, need_asked(book, given, asked)))


def first_pairs(given, root):
    """Return the pairs of the first states of a root, like ones, too."""
    firsts = root_states(given, root)
    return [(first, second) for first in firsts for second in firsts]


def pairs_of(book, start, ties):
    """Return the ascending list of the pairs of states to both of which one asked key leads."""
    need_book(book)
    given = start_rows(book, start)
    paths = Paths(book, need_ties(book, ties))
    states = states_of(book)
    later = {(first, second): paths.pairs_after((first, second)) for first in states for second in states}
    return list(all_reached(later, [pair for root in all_roots(book, given) for pair in first_pairs(given, root)]))
