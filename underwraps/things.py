"""Keys and things, and what is known to whoever has some."""

from underwraps.books import need_book
from underwraps.errors import BadLabel
from underwraps.knowledge import known_by
from underwraps.nests import (
    is_key_behind,
    key_by,
    need_key,
    need_nest,
    need_nests,
    read_key,
    read_nest,
)


def is_key(book, thing):
    """Tell whether any object is a key of the book."""
    need_book(book)
    return read_key(book, thing) is not None


def is_thing(book, thing):
    """Tell whether any object is a thing of the book."""
    need_book(book)
    return read_nest(book, thing) is not None


def next_key(book, key, label):
    """Return the next key of a key by a label of the book."""
    need_book(book)
    found = need_key(book, key)
    if not book.has_label(label):
        raise BadLabel(label)
    return key_by(found, label)


def is_behind(book, key, thing):
    """Tell whether any object is a key behind a key."""
    need_book(book)
    ahead = need_key(book, key)
    found = read_key(book, thing)
    return found is not None and is_key_behind(found, ahead)


def depth_of(book, thing):
    """Return under how many keys the innermost key of a thing stands."""
    need_book(book)
    return len(need_nest(book, thing)) - 1


def keys_in(book, thing):
    """Return the ascending list of the keys that stand in a thing, each once."""
    need_book(book)
    return sorted(set(need_nest(book, thing)))


def knows(book, things, thing):
    """Tell whether a thing is known to whoever has these things."""
    need_book(book)
    nests = need_nests(book, things)
    nest = need_nest(book, thing)
    return known_by(nests).has(nest)
