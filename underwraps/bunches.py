"""Bunches: the states to which one asked key leads, and the least key that leads to some."""

from underwraps.books import need_book, start_rows
from underwraps.errors import BadStates
from underwraps.forms import is_list
from underwraps.paths import Paths
from underwraps.states import all_roots, is_state, root_states
from underwraps.ties import need_ties


def bunch_words(paths, states):
    """Return a dict from each bunch of a key with these first states to the first word that leads to it.

    Words that are shorter are ahead, those of one length ascend.
    """
    level = [paths.over(states)]
    words = {level[0]: ()}
    while level:
        further = []
        for bunch in level:
            for label in paths.labels:
                later = paths.by(bunch, label)
                if later not in words:
                    words[later] = words[bunch] + (label,)
                    further.append(later)
        level = further
    return words


def bunches_of(book, start, ties):
    """Return the ascending list of the lists of states to which ties lead asked keys, each once."""
    need_book(book)
    given = start_rows(book, start)
    paths = Paths(book, need_ties(book, ties))
    bunches = [
        bunch
        for root in all_roots(book, given)
        for bunch in bunch_words(paths, root_states(given, root))
    ]
    return [list(bunch) for bunch in sorted(set(bunches))]


def word_to(paths, firsts, states):
    """Return the first word by which a key with these first states leads to all of some, None if none does."""
    words = bunch_words(paths, firsts)
    for bunch in words:
        if all([state in bunch for state in states]):
            return words[bunch]
    return None


def least_key(book, start, ties, states):
    """Return the asked key with the least word that leads to all of some states, None if none does."""
    need_book(book)
    given = start_rows(book, start)
    paths = Paths(book, need_ties(book, ties))
    if not is_list(states) or not all([is_state(book, state) for state in states]):
        raise BadStates(states)
    least = None
    for root in all_roots(book, given):
        word = word_to(paths, root_states(given, root), states)
        if word is not None and (least is None or (len(word), word) < (len(least[1]), least[1])):
            least = (root, word)
    return least
