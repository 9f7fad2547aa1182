"""Nests: things as this package goes on with them.

A thing is a row of keys, the outermost one ahead: ("under", k, ("under", l, m)) is the nest
(k, l, m), a key the nest of itself alone. So a thing is no deeper a tuple for being closed deeper.
"""

from underwraps.errors import BadKey, BadThing, BadThings
from underwraps.forms import first_word, is_list, is_number

BASES = ("given", "made", "own")

# A list may hold itself: what goes on for so long is no thing, it never ends.
DEEPEST = 10000


def read_base(thing):
    """Return the base that any object is, None if it is none."""
    if first_word(thing) not in BASES or len(thing) != 2 or not is_number(thing[1]):
        return None
    return tuple(thing)


def read_key(book, thing):
    """Return the key of the book that any object is, None if it is none."""
    if not is_list(thing) or len(thing) != 2:
        return None
    base, word = read_base(thing[0]), thing[1]
    if base is None or not is_list(word):
        return None
    if not all([book.has_label(label) for label in word]):
        return None
    return (base, tuple(word))


def read_nest(book, thing):
    """Return the nest of the thing of the book that any object is, None if it is none."""
    keys = []
    inner = thing
    while first_word(inner) == "under" and len(inner) == 3 and len(keys) < DEEPEST:
        keys.append(read_key(book, inner[1]))
        inner = inner[2]
    keys.append(read_key(book, inner))
    return None if None in keys else tuple(keys)


def thing_of(nest):
    """Return the thing of a nest."""
    thing = nest[-1]
    for key in reversed(nest[:-1]):
        thing = ("under", key, thing)
    return thing


def need_key(book, key):
    """Return the key that is passed; raise BadKey for none of the book."""
    found = read_key(book, key)
    if found is None:
        raise BadKey(key)
    return found


def need_nest(book, thing):
    """Return the nest of the thing that is passed; raise BadThing for none of the book."""
    nest = read_nest(book, thing)
    if nest is None:
        raise BadThing(thing)
    return nest


def need_nests(book, things):
    """Return the nests of the things that are passed; raise BadThings for the first that is none."""
    if not is_list(things):
        raise BadThings(0)
    nests = [read_nest(book, thing) for thing in things]
    for index, nest in enumerate(nests):
        if nest is None:
            raise BadThings(index)
    return nests


def is_key_behind(key, ahead):
    """Tell whether a key is behind another one."""
    many = len(ahead[1])
    return key[0] == ahead[0] and len(key[1]) > many and key[1][:many] == ahead[1]


def key_by(key, label):
    """Return the next key of a key by a label."""
    return (key[0], key[1] + (label,))


def ascending(nests):
    """Return the list of the nests, as their things ascend."""
    return sorted(nests, key=lambda nest: (len(nest), nest))
