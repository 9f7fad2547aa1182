"""Desks: they make a book permit by permit, and let none in by which a guarded key would come out."""

from underwraps.books import Book, read_permit, roles_row
from underwraps.errors import BadAsked
from underwraps.forms import is_list, is_number
from underwraps.growth import least_paths
from underwraps.leading import states_led
from underwraps.refusals import BadGiven, BadPermit, IsAllowed, IsGuarded, LetsOut, NotAllowed, NotGuarded
from underwraps.states import is_root, read_asked
from underwraps.verdicts import verdict


def read_likely(book, thing):
    """Return the asked key that any object is in form, whatever its root, None if it is none."""
    if not is_list(thing) or len(thing) != 2 or not is_list(thing[1]):
        return None
    root, word = thing
    if not isinstance(root, str) and not is_number(root):
        return None
    return (root, tuple(word)) if all([book.has_label(label) for label in word]) else None


class Place:
    """What a desk has come to: a book, the roles of its given keys, and the asked keys that are guarded."""

    def __init__(self, book, given, watched):
        self.book = book
        self.given = given
        self.watched = watched

    def first_out(self):
        """Return the first guarded key that comes out, None if none does; one that cannot be made does not."""
        paths = least_paths(self.book, self.given)
        for asked in self.watched:
            if is_root(self.book, self.given, asked[0]) and "known" in states_led(paths, self.given, asked):
                return asked
        return None

    def with_permits(self, permits):
        """Return the place with just these permits."""
        return Place(Book(self.book.all_roles(), self.book.all_labels(), permits), self.given, self.watched)

    def shown(self):
        """Return what the place is told apart by."""
        return (self.book, self.given, self.watched)


class Desk:
    """A book in the making, with what is guarded in it; each deed can be taken back, and done again."""

    def __init__(self, roles, labels):
        self._place = Place(Book(roles, labels, []), (), ())
        # The words of the deeds, each with the place ahead of it; of those taken back with the place behind.
        self._done = []
        self._undone = []

    def read(self, permit):
        """Return the permit that is passed; raise BadPermit for none of these roles and labels."""
        book = self._place.book
        found = read_permit(book.all_roles(), book.all_labels(), permit)
        if found is None:
            raise BadPermit(permit)
        return found

    def place_with(self, permit):
        """Return the place with a permit more; raise the error of what is wrong with it."""
        found = self.read(permit)
        if self._place.book.lets(found):
            raise IsAllowed(permit)
        return self._place.with_permits(self._place.book.all_permits() + [found])

    def come_to(self, word, place):
        """Do a deed by which a place is come to."""
        self._done.append((word, self._place))
        self._undone = []
        self._place = place

    def let_in(self, word, place):
        """Do a deed likewise; raise LetsOut if a guarded key would come out then."""
        out = place.first_out()
        if out is not None:
            raise LetsOut(out)
        self.come_to(word, place)

    def allow(self, permit):
        """Let a permit in."""
        self.let_in("allow", self.place_with(permit))

    def forbid(self, permit):
        """Take a permit away."""
        found = self.read(permit)
        book = self._place.book
        if not book.lets(found):
            raise NotAllowed(permit)
        self.come_to("forbid", self._place.with_permits([other for other in book.all_permits() if other != found]))

    def give(self, some):
        """Give another key, with some roles; return its number."""
        place = self._place
        row = roles_row(place.book, some)
        if row is None:
            raise BadGiven(some)
        self.let_in("give", Place(place.book, place.given + (row,), place.watched))
        return len(place.given)

    def guard(self, asked):
        """Guard an asked key."""
        place = self._place
        found = read_asked(place.book, place.given, asked)
        if found is None:
            raise BadAsked(asked)
        if found in place.watched:
            raise IsGuarded(asked)
        self.let_in("guard", Place(place.book, place.given, place.watched + (found,)))

    def free(self, asked):
        """Guard an asked key no more."""
        place = self._place
        found = read_likely(place.book, asked)
        if found not in place.watched:
            if read_asked(place.book, place.given, asked) is None:
                raise BadAsked(asked)
            raise NotGuarded(asked)
        left = tuple([other for other in place.watched if other != found])
        self.come_to("free", Place(place.book, place.given, left))

    def now(self):
        """Return the pair of the book and the start that are there."""
        return (self._place.book, [list(row) for row in self._place.given])

    def guarded(self):
        """Return the list of the guarded asked keys, in the order in which they were guarded."""
        return list(self._place.watched)

    def would(self, permit):
        """Return the guarded key that a permit would let out, and a log that tells it, None if it lets out none."""
        place = self.place_with(permit)
        out = place.first_out()
        if out is None:
            return None
        _, log = verdict(place.book, place.given, out, "known")
        return (out, log)

    def undo(self):
        """Take the last deed back; return its word, None if there is none."""
        if not self._done:
            return None
        word, ahead = self._done.pop()
        self._undone.append((word, self._place))
        self._place = ahead
        return word

    def redo(self):
        """Do again what was last taken back; return its word, None if there is none."""
        if not self._undone:
            return None
        word, behind = self._undone.pop()
        self._done.append((word, self._place))
        self._place = behind
        return word

    def copy(self):
        """Return a desk like this one, that goes on by itself."""
        other = Desk(self._place.book.all_roles(), self._place.book.all_labels())
        other._place = self._place
        other._done = list(self._done)
        other._undone = list(self._undone)
        return other

    def shown(self):
        """Return what the desk is told apart by."""
        return [self._place.shown()] + [(word, place.shown()) for word, place in self._undone]

    def __eq__(self, other):
        return isinstance(other, Desk) and self.shown() == other.shown()
