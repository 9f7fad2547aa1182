"""States and moves, roots and their first states, asked keys."""

from underwraps.books import need_book, start_rows
from underwraps.errors import BadAsked, BadRoot, BadState
from underwraps.forms import is_list, is_number


def states_of(book):
    """Return the ascending list of the states: "known" and the roles of the book."""
    need_book(book)
    return sorted(["known"] + book.all_roles())


def is_state(book, thing):
    """Tell whether any object is a state."""
    return isinstance(thing, str) and (thing == "known" or book.has_role(thing))


def need_state(book, state):
    """Raise BadState for what is no state."""
    if not is_state(book, state):
        raise BadState(state)


def is_state_dict(book, thing):
    """Tell whether any object is a dict from just the states."""
    states = states_of(book)
    return isinstance(thing, dict) and len(thing) == len(states) and all([state in thing for state in states])


def moves_of(book):
    """Return the ascending list of the moves, triples of a state, a label and a state."""
    need_book(book)
    moves = [permit[1:] for permit in book.all_permits() if permit[0] == "derive"]
    return sorted(moves + [("known", label, "known") for label in book.all_labels()])


def is_move(book, state, label, later):
    """Tell whether a move by a label of the book leads from one state to another one."""
    if state == "known":
        return later == "known"
    return book.lets(("derive", state, label, later))


def is_root(book, given, thing):
    """Tell whether any object is a root of the book, and of given keys with these roles."""
    if isinstance(thing, str):
        return thing == "known" or book.lets(("make", thing))
    return is_number(thing) and thing < len(given)


def all_roots(book, given):
    """Return the list of the roots: numbers, then states, ascending."""
    made = [permit[1] for permit in book.all_permits() if permit[0] == "make"]
    return list(range(len(given))) + sorted(made + ["known"])


def roots_of(book, start):
    """Return the list of the roots of a book and a start: numbers, then states, ascending."""
    need_book(book)
    return all_roots(book, start_rows(book, start))


def root_states(given, root):
    """Return the first states of a root, ascending."""
    return given[root] if is_number(root) else (root,)


def need_root(book, given, root):
    """Raise BadRoot for what is no root."""
    if not is_root(book, given, root):
        raise BadRoot(root)


def first_states(book, start, root):
    """Return the ascending list of the first states of a root."""
    need_book(book)
    given = start_rows(book, start)
    need_root(book, given, root)
    return list(root_states(given, root))


def read_asked(book, given, thing):
    """Return the asked key that any object is, None if it is none."""
    if not is_list(thing) or len(thing) != 2:
        return None
    root, word = thing
    if not is_root(book, given, root) or not is_list(word):
        return None
    if not all([book.has_label(label) for label in word]):
        return None
    return (root, tuple(word))


def need_asked(book, given, asked):
    """Return the asked key that is passed; raise BadAsked for none."""
    found = read_asked(book, given, asked)
    if found is None:
        raise BadAsked(asked)
    return found


def is_asked(book, start, thing):
    """Tell whether any object is an asked key of a book and a start."""
    need_book(book)
    return read_asked(book, start_rows(book, start), thing) is not None
