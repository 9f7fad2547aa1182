"""Custodies: parts of keys that lie with custodians, and who of these tells."""

from underwraps.books import need_book
from underwraps.forms import are_names, first_wrong, is_list, is_name, is_number
from underwraps.refusals import BadCustody, BadTellers


class Custody:
    """How many parts make a key, who may get parts of which keys, and which roles joined keys may have."""

    def __init__(self, need, parts, joins):
        self.need = need
        self.parts = {pair: True for pair in parts}
        self.joins = sorted(joins)
        self.names = sorted(set([name for _, name in parts]))

    def may_hold(self, name, roles):
        """Tell whether a custodian may get a part of a key with some of these roles."""
        return any([(role, name) in self.parts for role in roles])


def read_share(book, thing):
    """Return the pair of a role and a custodian's name that any object is, None if it is none."""
    if not is_list(thing) or len(thing) != 2 or not book.has_role(thing[0]) or not is_name(thing[1]):
        return None
    return tuple(thing)


def read_custody(book, thing):
    """Return the custody that any object is, None if it is none."""
    if not is_list(thing) or len(thing) != 3 or not is_list(thing[1]):
        return None
    need, parts, joins = thing[0], [read_share(book, part) for part in thing[1]], thing[2]
    if not is_number(need) or need == 0 or first_wrong(parts) is not None:
        return None
    if not are_names(joins) or not all([book.has_role(role) for role in joins]):
        return None
    return Custody(need, parts, joins)


def is_custody(book, thing):
    """Tell whether any object is a custody."""
    need_book(book)
    return read_custody(book, thing) is not None


def need_custody(book, custody):
    """Return the custody that is passed; raise BadCustody for none."""
    found = read_custody(book, custody)
    if found is None:
        raise BadCustody(custody)
    return found


def need_tellers(custody, tellers):
    """Return the tellers that are passed, ascending; raise BadTellers for what is no list of custodians."""
    if not are_names(tellers) or not all([name in custody.names for name in tellers]):
        raise BadTellers(tellers)
    return sorted(tellers)


def custodians(book, custody):
    """Return the ascending list of the custodians' names."""
    need_book(book)
    return list(need_custody(book, custody).names)
