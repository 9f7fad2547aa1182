"""Verdicts: an asked key is brought to a state by some log, or some closed machine never leads it there."""

from underwraps.books import need_book, start_rows
from underwraps.forms import first_word
from underwraps.growth import Growth, pairs_called
from underwraps.leaders import led_along
from underwraps.leading import states_led
from underwraps.machines import facts_of, first_lack, machine_of
from underwraps.origins import asked_of, bases_of, first_roles
from underwraps.paths import Paths, shortest_path
from underwraps.plays import play_calls
from underwraps.states import need_asked, need_state, root_states


def is_brought(house, asked, state):
    """Tell whether behind a house's calls some key of an asked key is in a state."""
    root, word = asked
    handles = house.handles()
    roles = first_roles(handles)
    if state != "known":
        return any([role == state and asked_of(roles, key) == asked for key, role in handles])
    if root == "known":
        return True
    return any([house.is_known(((base, word),)) for base in bases_of(roles, root)])


def brings(book, start, asked, state, thing):
    """Tell whether any object is a log that brings an asked key to a state."""
    play, fault = play_calls(book, start, thing)
    return fault is None and is_brought(play.house, asked, state)


def is_bringing(book, start, asked, state, thing):
    """Tell whether any object is a log that brings an asked key to a state."""
    need_book(book)
    given = start_rows(book, start)
    found = need_asked(book, given, asked)
    need_state(book, state)
    return brings(book, given, found, state, thing)


def keeps_from(book, given, asked, state, thing):
    """Tell whether any object is a closed machine that does not lead an asked key to a state."""
    facts = facts_of(book, thing)
    if facts is None or first_lack(book, given, facts) is not None:
        return False
    return state not in states_led(Paths(book, pairs_called("tie", facts)), given, asked)


def is_never(book, start, asked, state, thing):
    """Tell whether any object is a closed machine whose ties do not lead an asked key to a state."""
    need_book(book)
    given = start_rows(book, start)
    found = need_asked(book, given, asked)
    need_state(book, state)
    return keeps_from(book, given, found, state, thing)


def verdict(book, start, asked, state):
    """Return ("told", a log that brings an asked key to a state), or ("never", the least machine)."""
    need_book(book)
    given = start_rows(book, start)
    found = need_asked(book, given, asked)
    need_state(book, state)
    growth = Growth(book, given, {})
    path = shortest_path(growth.tied_paths(), root_states(given, found[0]), found[1], state)
    if path is None:
        return ("never", machine_of(growth.ranks))
    log, _ = led_along(given, growth.grounds, [(found, path)])
    return ("told", log)


def judged(book, start, asked, state, thing):
    """Return the first word of any object that is a right verdict on an asked key and a state, else None."""
    need_book(book)
    given = start_rows(book, start)
    found = need_asked(book, given, asked)
    need_state(book, state)
    word = first_word(thing)
    if word not in ("told", "never") or len(thing) != 2:
        return None
    if word == "told":
        right = brings(book, start, found, state, thing[1])
    else:
        right = keeps_from(book, given, found, state, thing[1])
    return word if right else None
