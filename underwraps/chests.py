"""The gist of what is known, chests that stay shut, and what one key more tells."""

from underwraps.books import need_book
from underwraps.errors import BadChest
from underwraps.forms import is_list
from underwraps.knowledge import known_by
from underwraps.nests import (
    is_key_behind,
    need_nest,
    need_nests,
    read_key,
    read_nest,
    thing_of,
)


def gist(book, things):
    """Return the least keys and closed things by which whoever has them knows what these things tell."""
    need_book(book)
    known = known_by(need_nests(book, things))
    return (known.least_keys(), [thing_of(nest) for nest in known.shut_nests()])


class Chest:
    """A chest, read: by it what is made of its keys and its closed nests counts."""

    def __init__(self, keys, closed):
        self.bare = {key: True for key in keys}
        self.closed = closed
        self.stored = {nest: True for nest in closed}

    def has_key(self, key):
        """Tell whether a key counts."""
        base, word = key
        if base[0] == "own":
            return True
        return any([(base, word[:many]) in self.bare for many in range(len(word) + 1)])

    def has(self, nest):
        """Tell whether a nest counts."""
        for at, key in enumerate(nest[:-1]):
            if nest[at:] in self.stored:
                return True
            if not self.has_key(key):
                return False
        return self.has_key(nest[-1])


def read_chest(book, thing):
    """Return the chest that any object is, None if it is none."""
    if not is_list(thing) or len(thing) != 2 or not is_list(thing[0]) or not is_list(thing[1]):
        return None
    keys = [read_key(book, part) for part in thing[0]]
    closed = [read_nest(book, part) for part in thing[1]]
    if None in keys or None in closed or any([len(nest) == 1 for nest in closed]):
        return None
    return Chest(keys, closed)


def counts(book, chest, thing):
    """Tell whether a thing counts by a chest."""
    need_book(book)
    found = read_chest(book, chest)
    if found is None:
        raise BadChest(chest)
    return found.has(need_nest(book, thing))


def chest_fault(book, things, chest):
    """Return what first makes any object no chest that is shut for things, None for one that is."""
    need_book(book)
    nests = need_nests(book, things)
    found = read_chest(book, chest)
    if found is None:
        return ("form", 0)
    for index, nest in enumerate(nests):
        if not found.has(nest):
            return ("thing", index)
    for index, nest in enumerate(found.closed):
        if found.has_key(nest[0]):
            return ("open", index)
    return None


def enough_keys(book, things, thing):
    """Return the ascending list of the keys that tell a thing, while no next keys of them do."""
    need_book(book)
    nests = need_nests(book, things)
    goal = need_nest(book, thing)
    known = known_by(nests)
    if known.has(goal):
        return []
    telling = [key for key in likely_keys(nests + [goal]) if tells_with(known, key, goal)]
    # Where keys ascend, one behind another comes right after it.
    return [
        key
        for key, later in zip(telling, telling[1:] + [None])
        if later is None or not is_key_behind(later, key)
    ]


def tells_with(known, key, goal):
    """Tell whether a nest is known to whoever has one key more."""
    more = known.copy()
    more.take((key,))
    return more.has(goal)


def likely_keys(nests):
    """Return, ascending, the keys that no next key can stand in for: those in nests, and where they part."""
    standing = sorted(set([key for nest in nests for key in nest]))
    # All others have, of those in nests, just the same ones behind them as one next key of theirs has.
    parting = [key_ahead_of_both(key, later) for key, later in zip(standing, standing[1:]) if key[0] == later[0]]
    return sorted(set(standing + parting))


def key_ahead_of_both(key, other):
    """Return of two unlike keys with one base the key where their words part."""
    many = 0
    while key[1][:many + 1] == other[1][:many + 1]:
        many += 1
    return (key[0], key[1][:many])
