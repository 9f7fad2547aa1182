"""Houses: they hold keys for their users, and do what the book lets be called."""

from underwraps.books import need_book, start_rows
from underwraps.deeds import MAKERS, handle_by, nest_by, nest_fault, permit_for, read_call
from underwraps.errors import BadCall, NoHandle, NoPermit, NotKey, NotKnown, NotUnder
from underwraps.nests import thing_of
from underwraps.users import User


class House:
    """A house of a book and a start: its handles, and what has come out of it."""

    def __init__(self, book, start):
        need_book(book)
        rows = start_rows(book, start)
        self._book = book
        self._rows = rows
        self._handles = [((("given", at), ()), role) for at, row in enumerate(rows) for role in row]
        self._user = User()

    def handles(self):
        """Return the list of the handles, pairs of a key and a role."""
        return list(self._handles)

    def out(self):
        """Return the list of the things that have come out, in order."""
        return [thing_of(nest) for nest in self._user.nests]

    def book(self):
        """Return the book that the house was made of."""
        return self._book

    def start(self):
        """Return the start that the house was made of."""
        return [list(row) for row in self._rows]

    def copy(self):
        """Return a house like this one, that goes on by itself."""
        return self.used_by(self._user.copy())

    def used_by(self, user):
        """Return a house with the handles of this one, whose user is another one."""
        other = House(self._book, self._rows)
        other._handles = list(self._handles)
        other._user = user
        return other

    def call(self, call):
        """Do a call; return the new handle's number, or the thing that comes out."""
        deed = read_call(self._book, call)
        if deed is None:
            raise BadCall(call)
        why = self.refusal(deed)
        if why == "handle":
            raise NoHandle(self.missing(deed)[0])
        if why == "permit":
            raise NoPermit(self.permit_of(deed))
        if why == "known":
            raise NotKnown(call[2])
        if why == "under":
            raise NotUnder(call[2])
        if why == "inner":
            raise NotKey(call[2][2])
        told = self.carry_out(deed)
        return told if deed.word in MAKERS else thing_of(told)

    def refusal(self, deed):
        """Return why a deed is refused, as logs word it, None if it is let."""
        if self.missing(deed):
            return "handle"
        if not self._book.lets(self.permit_of(deed)):
            return "permit"
        if deed.nest is not None and not self.is_known(deed.nest):
            return "known"
        return nest_fault(deed, self.keys_of(deed))

    def missing(self, deed):
        """Return the list of the numbers in a deed that are no handles."""
        return [number for number in deed.numbers if number >= len(self._handles)]

    def permit_of(self, deed):
        """Return the permit by which a deed is let, its handles being there."""
        return permit_for(deed, [self._handles[number][1] for number in deed.numbers])

    def keys_of(self, deed):
        """Return the list of the keys of a deed's handles, these being there."""
        return [self._handles[number][0] for number in deed.numbers]

    def is_known(self, nest):
        """Tell whether a nest is known by what has come out."""
        return self._user.known.has(nest)

    def known_keys(self):
        """Return the ascending list of the keys that are known, no own ones and behind no known one."""
        return self._user.known.least_keys()

    def handle_at(self, number):
        """Return the key and the role of a handle, None if there is none with this number."""
        return self._handles[number] if number < len(self._handles) else None

    def add_handle(self, handle):
        """Hold one handle more; return its number."""
        self._handles.append(handle)
        return len(self._handles) - 1

    def be_told(self, key):
        """Let the user know a key that he is told elsewhere: nothing comes out."""
        self._user.known.take((key,))

    def carry_out(self, deed):
        """Do a deed that is let; return the new handle's number, or the nest that comes out."""
        keys = self.keys_of(deed)
        if deed.word in MAKERS:
            number = self.add_handle(handle_by(deed, keys, self._user.made))
            if deed.word == "make":
                self._user.count_make()
            return number
        nest = nest_by(deed, keys)
        self._user.take(nest)
        return nest

    def __eq__(self, other):
        return (
            isinstance(other, House)
            and self._book == other._book
            and self._rows == other._rows
            and self._handles == other._handles
            and self._user.nests == other._user.nests
            and self._user.made == other._user.made
        )


def is_call(book, thing):
    """Tell whether any object is a call of the book."""
    need_book(book)
    return read_call(book, thing) is not None
