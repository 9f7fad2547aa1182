"""Where ties lead asked keys, and to which two states at once."""

from underwraps.books import need_book, start_rows
from underwraps.paths import Paths
from underwraps.states import all_roots, need_asked, root_states
from underwraps.ties import need_ties


def leads_to(book, start, ties, asked):
    """Return the ascending list of the states to which ties lead an asked key."""
    need_book(book)
    given = start_rows(book, start)
    paths = Paths(book, need_ties(book, ties))
    root, word = need_asked(book, given, asked)
    return list(paths.led(root_states(given, root), word))


def first_pairs(given, root):
    """Return the pairs of the first states of a root, like ones, too."""
    firsts = root_states(given, root)
    return [(first, second) for first in firsts for second in firsts]


def pairs_of(book, start, ties):
    """Return the ascending list of the pairs of states to both of which one asked key leads."""
    need_book(book)
    given = start_rows(book, start)
    paths = Paths(book, need_ties(book, ties))
    found = {}
    todo = [pair for root in all_roots(book, given) for pair in first_pairs(given, root)]
    while todo:
        pair = todo.pop()
        if pair not in found:
            found[pair] = True
            todo.extend(paths.tied_pairs(pair))
            for label in paths.labels:
                todo.extend(paths.moved_pairs(pair, label))
    return sorted(found)
