"""Books: what each key may be used for. Starts: the keys that a house holds from the beginning."""

from underwraps.errors import BadBook, BadLabels, BadNames, BadOther, BadPermits, BadRoles, BadStart
from underwraps.forms import are_names, first_word, first_wrong, is_list

# What stands behind the word of a permit.
PERMITS = {
    "make": ("role",),
    "bring": ("role",),
    "show": ("role",),
    "copy": ("role", "role"),
    "derive": ("role", "label", "role"),
    "wrap": ("role", "role"),
    "unwrap": ("role", "role"),
    "seal": ("role",),
    "open": ("role",),
}


class Book:
    """What a house's keys may be used for: roles, labels, permits."""

    def __init__(self, roles, labels, permits):
        need_roles(roles)
        need_labels(labels)
        if not is_list(permits):
            raise BadPermits(0)
        rows = [read_permit(roles, labels, thing) for thing in permits]
        need_unlike(rows)
        self._roles = {role: True for role in sorted(roles)}
        self._labels = {label: True for label in sorted(labels)}
        self._permits = {permit: True for permit in sorted(rows)}

    def all_roles(self):
        """Return the list of the roles, ascending."""
        return list(self._roles)

    def all_labels(self):
        """Return the list of the labels, ascending."""
        return list(self._labels)

    def all_permits(self):
        """Return the list of the permits, ascending."""
        return list(self._permits)

    def has_role(self, thing):
        """Tell whether any object is a role of this book."""
        return isinstance(thing, str) and thing in self._roles

    def has_label(self, thing):
        """Tell whether any object is a label of this book."""
        return isinstance(thing, str) and thing in self._labels

    def lets(self, permit):
        """Tell whether a permit, or None, is one of this book."""
        return permit in self._permits

    def __eq__(self, other):
        return (
            isinstance(other, Book)
            and self._roles == other._roles
            and self._labels == other._labels
            and self._permits == other._permits
        )


def need_roles(roles):
    """Raise BadRoles for what is no list of roles."""
    if not are_names(roles) or "known" in roles:
        raise BadRoles(roles)


def need_labels(labels):
    """Raise BadLabels for what is no list of labels."""
    if not are_names(labels):
        raise BadLabels(labels)


def need_book(book):
    """Raise BadBook for what is no Book."""
    if not isinstance(book, Book):
        raise BadBook(book)


def need_unlike(rows):
    """Raise BadPermits for the first row that is None, or stood ahead."""
    wrong = first_wrong(rows)
    if wrong is not None:
        raise BadPermits(wrong)


def read_permit(roles, labels, thing):
    """Return the permit of roles and labels that any object is, None if it is none."""
    shape = PERMITS.get(first_word(thing))
    if shape is None or len(thing) != len(shape) + 1:
        return None
    for kind, name in zip(shape, thing[1:]):
        if not isinstance(name, str) or name not in (roles if kind == "role" else labels):
            return None
    return tuple(thing)


def is_permit(roles, labels, thing):
    """Tell whether any object is a permit of these roles and labels."""
    need_roles(roles)
    need_labels(labels)
    return read_permit(roles, labels, thing) is not None


def roles_row(book, thing):
    """Return the roles of a given key that any object lists, None if it is no such list."""
    if not is_list(thing) or not all([book.has_role(role) for role in thing]):
        return None
    if not all([role < later for role, later in zip(thing, thing[1:])]):
        return None
    return tuple(thing)


def start_fault(book, thing):
    """Return the index of the first thing that makes any object no start, None for a start."""
    if not is_list(thing):
        return 0
    for index, row in enumerate(thing):
        if roles_row(book, row) is None:
            return index
    return None


def start_rows(book, start):
    """Return the roles of each given key of a start; raise BadStart for what is none."""
    fault = start_fault(book, start)
    if fault is not None:
        raise BadStart(fault)
    return tuple([roles_row(book, row) for row in start])


def is_start(book, thing):
    """Tell whether any object is a start of the book."""
    need_book(book)
    return start_fault(book, thing) is None


def is_less(book, other):
    """Tell whether all that the book has is the other's, too."""
    need_book(book)
    if not isinstance(other, Book):
        raise BadOther(other)
    return (
        all([other.has_role(role) for role in book.all_roles()])
        and all([other.has_label(label) for label in book.all_labels()])
        and all([other.lets(permit) for permit in book.all_permits()])
    )


def without(book, permits):
    """Return the book without these permits of it."""
    need_book(book)
    if not is_list(permits):
        raise BadPermits(0)
    roles, labels = book.all_roles(), book.all_labels()
    rows = [read_permit(roles, labels, thing) for thing in permits]
    gone = [row if book.lets(row) else None for row in rows]
    need_unlike(gone)
    return Book(roles, labels, [permit for permit in book.all_permits() if permit not in gone])


def need_names(book, names):
    """Raise BadNames for what does not call just the book's roles and labels otherwise."""
    roles, labels = book.all_roles(), book.all_labels()
    if not isinstance(names, dict) or len(names) != len(set(roles + labels)):
        raise BadNames(names)
    if not all([name in names for name in roles + labels]):
        raise BadNames(names)
    new_roles = [names[role] for role in roles]
    if not are_names(new_roles) or "known" in new_roles:
        raise BadNames(names)
    if not are_names([names[label] for label in labels]):
        raise BadNames(names)


def permit_called(permit, names):
    """Return the permit with its roles and labels called otherwise."""
    # A role may be called as a permit's word is: the word stays.
    return permit[:1] + tuple([names[name] for name in permit[1:]])


def called(book, names):
    """Return the book with its roles and labels called otherwise."""
    need_book(book)
    need_names(book, names)
    return Book(
        [names[role] for role in book.all_roles()],
        [names[label] for label in book.all_labels()],
        [permit_called(permit, names) for permit in book.all_permits()],
    )


def start_called(book, start, names):
    """Return the start with the book's roles called otherwise."""
    need_book(book)
    rows = start_rows(book, start)
    need_names(book, names)
    return [sorted([names[role] for role in row]) for row in rows]


def used_roles(book):
    """Return the ascending list of the roles that the book's permits name."""
    need_book(book)
    roles = [
        name
        for permit in book.all_permits()
        for kind, name in zip(PERMITS[permit[0]], permit[1:])
        if kind == "role"
    ]
    return sorted(set(roles))
