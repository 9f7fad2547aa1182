"""Told keys: which asked keys fall if the user is told given keys while the house runs."""

from underwraps.books import Book, need_book, start_rows
from underwraps.forms import is_list, is_name, is_number
from underwraps.growth import any_out
from underwraps.refusals import BadLot, BadRole
from underwraps.states import need_asked


def need_lot(given, lot):
    """Return the lot of given keys' numbers that is passed; raise BadLot for none."""
    if not is_list(lot) or not all([is_number(at) and at < len(given) for at in lot]):
        raise BadLot(lot)
    if not all([at < later for at, later in zip(lot, lot[1:])]):
        raise BadLot(lot)
    return tuple(lot)


def with_shown(book, given, lot, role):
    """Return the book with a role more that comes out, and the roles of given keys, those of the lot with it."""
    told = Book(book.all_roles() + [role], book.all_labels(), book.all_permits() + [("show", role)])
    return (told, [sorted(list(row) + [role]) if at in lot else list(row) for at, row in enumerate(given)])


def told_book(book, start, lot, role):
    """Return a book and a start in which the keys of a lot have a role more, by which they come out."""
    need_book(book)
    given = start_rows(book, start)
    found = need_lot(given, lot)
    if not is_name(role) or role == "known" or book.has_role(role):
        raise BadRole(role)
    return with_shown(book, given, found, role)


def new_role(book):
    """Return a role that the book has not."""
    names = ["told" + str(number) for number in range(len(book.all_roles()) + 1)]
    return [name for name in names if not book.has_role(name)][0]


def falls_by(book, given, lot, asked):
    """Tell whether an asked key comes out if the keys of a lot are told while the house runs."""
    told, rows = with_shown(book, given, lot, new_role(book))
    return any_out(told, rows, [asked])


def falls_running(book, start, lot, asked):
    """Tell whether an asked key comes out if the keys of a lot are told while the house runs."""
    need_book(book)
    given = start_rows(book, start)
    found = need_lot(given, lot)
    return falls_by(book, given, found, need_asked(book, given, asked))


def felling_keys(book, start, asked):
    """Return the ascending list of the given keys by each of which, told alone, an asked key comes out."""
    need_book(book)
    given = start_rows(book, start)
    found = need_asked(book, given, asked)
    return [at for at in range(len(given)) if falls_by(book, given, (at,), found)]


def head_of(down, at):
    """Return the given keys that bring one down, and that it brings down, None if others bring it down, too.

    down tells of each given key which ones bring it down.
    """
    head = [other for other in down[at] if at in down[other]]
    return None if head != down[at] else head


def heads(book, start):
    """Return the ascending list of the heads: given keys that bring down one another, and none else does."""
    need_book(book)
    given = start_rows(book, start)
    inside = [at for at in range(len(given)) if not falls_by(book, given, (), (at, ()))]
    down = {at: felling_keys(book, given, (at, ())) for at in inside}
    # Whoever brings down a key that stays inside, told none, stays inside, too.
    found = [head_of(down, at) for at in inside]
    return [list(head) for head in sorted(set([tuple(head) for head in found if head is not None]))]
