"""Bunches: the states to which one asked key leads, and the least key that leads to some."""

from underwraps.books import need_book, start_rows
from underwraps.errors import BadStates
from underwraps.forms import is_list
from underwraps.paths import Paths
from underwraps.searches import first_word_to, reached_from
from underwraps.states import all_roots, is_state, root_states
from underwraps.ties import need_ties


def all_bunches(paths, states):
    """Return all bunches of a key with these first states, as a search tells them."""
    return reached_from(paths.over(states), paths.labels, paths.by)


def bunches_of(book, start, ties):
    """Return the ascending list of the lists of states to which ties lead asked keys, each once."""
    need_book(book)
    given = start_rows(book, start)
    paths = Paths(book, need_ties(book, ties))
    bunches = [
        bunch
        for root in all_roots(book, given)
        for bunch in all_bunches(paths, root_states(given, root))
    ]
    return [list(bunch) for bunch in sorted(set(bunches))]


def word_to(paths, firsts, states):
    """Return the first word by which a key with these first states leads to all of some, None if none does."""
    ahead = all_bunches(paths, firsts)
    for bunch in ahead:
        if all([state in bunch for state in states]):
            return first_word_to(ahead, bunch)
    return None


def least_key(book, start, ties, states):
    """Return the asked key with the least word that leads to all of some states, None if none does."""
    need_book(book)
    given = start_rows(book, start)
    paths = Paths(book, need_ties(book, ties))
    if not is_list(states) or not all([is_state(book, state) for state in states]):
        raise BadStates(states)
    least = None
    for root in all_roots(book, given):
        word = word_to(paths, root_states(given, root), states)
        if word is not None and (least is None or (len(word), word) < (len(least[1]), least[1])):
            least = (root, word)
    return least
