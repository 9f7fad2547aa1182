"""Togethers: a log and a key that has some states at once, and what stands together with a role that wraps."""

from underwraps.books import need_book, start_rows
from underwraps.bunches import word_to
from underwraps.groups import need_together
from underwraps.growth import Growth, pairs_called
from underwraps.leaders import led_along
from underwraps.paths import shortest_path
from underwraps.refusals import BadRole
from underwraps.states import need_root, root_states


def together(book, start, root, states):
    """Return a log, and a key of a root that has all of some states behind it; None if none ever has."""
    need_book(book)
    given = start_rows(book, start)
    need_root(book, given, root)
    need_together(book, states)
    growth = Growth(book, given, {})
    paths, firsts = growth.tied_paths(), root_states(given, root)
    word = word_to(paths, firsts, states)
    if word is None:
        return None
    found = [((root, word), shortest_path(paths, firsts, word, state)) for state in states]
    log, keys = led_along(given, growth.grounds, found)
    return (log, keys[0])


def wrapping(book, start, role):
    """Return the ascending list of the states that some key has at once with a role that wraps a role."""
    need_book(book)
    given = start_rows(book, start)
    if not book.has_role(role):
        raise BadRole(role)
    pairs = pairs_called("pair", Growth(book, given, {}).ranks)
    return sorted(set([state for state, other in pairs if book.lets(("wrap", other, role))]))
