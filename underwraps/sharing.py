"""Sharing: given keys of several houses apart, and which must be one key that an asked one comes out."""

from itertools import combinations

from underwraps.forms import is_list, is_number
from underwraps.growth import any_out
from underwraps.joining import housed, joined_book, joined_rows
from underwraps.refusals import BadHeld, BadSome
from underwraps.several import need_books, need_house, need_starts
from underwraps.states import read_asked


def holders(rows, at):
    """Return the list of the houses that hold a given key."""
    return [house for house, row in enumerate(rows) if len(row[at]) > 0]


def shared_keys(rows):
    """Return the ascending list of the given keys that more than one house holds."""
    return [at for at in range(len(rows[0])) if len(holders(rows, at)) > 1]


def need_some(rows, some):
    """Raise BadSome for what is no ascending list of unlike shared keys' numbers."""
    shared = shared_keys(rows)
    if not is_list(some) or not all([is_number(at) and at in shared for at in some]):
        raise BadSome(some)
    if not all([at < later for at, later in zip(some, some[1:])]):
        raise BadSome(some)


def split_keys(rows, some):
    """Return the houses and numbers of the keys that stand in for some, but in their first houses, in order."""
    return [(house, at) for at in some for house in holders(rows, at)[1:]]


def apart_rows(rows, some):
    """Return the roles of each given key, house by house, if some are a key of its own in each house."""
    split = split_keys(rows, some)
    return [
        [() if (house, at) in split else roles for at, roles in enumerate(row)]
        + [row[at] if other == house else () for other, at in split]
        for house, row in enumerate(rows)
    ]


def apart(books, starts, some):
    """Return the list of the starts in which each of some is a given key of its own in each house that holds it."""
    need_books(books)
    rows = need_starts(books, starts)
    need_some(rows, some)
    return [[list(roles) for roles in row] for row in apart_rows(rows, some)]


def need_held(book, rows, house, asked):
    """Return the asked key of a house that is passed; raise BadHeld for none, or one that the house does not hold."""
    found = read_asked(book, rows[house], asked)
    if found is None or (is_number(found[0]) and len(rows[house][found[0]]) == 0):
        raise BadHeld(asked)
    return found


def root_apart(rows, some, house, root):
    """Return the root, in the book for all, of a house's asked key with a root, if some given keys are apart."""
    if not is_number(root):
        return root if root == "known" else housed(root, house)
    split = split_keys(rows, some)
    return len(rows[0]) + split.index((house, root)) if (house, root) in split else root


def sharings(books, starts, house, asked):
    """Return the ascending list of the least lists of shared keys by which, as one key each, an asked key comes out."""
    need_books(books)
    rows = need_starts(books, starts)
    need_house(books, house)
    root, word = need_held(books[house], rows, house, asked)
    shared, book = shared_keys(rows), joined_book(books)
    found = []
    for many in range(len(shared) + 1):
        for some in combinations(shared, many):
            if not any([all([at in some for at in least]) for least in found]):
                others = [at for at in shared if at not in some]
                led = (root_apart(rows, others, house, root), word)
                if any_out(book, joined_rows(apart_rows(rows, others)), [led]):
                    found.append(list(some))
    return sorted(found)
