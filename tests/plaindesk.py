"""A slow plain reading of section 20 of the document, written beside the program, not of it."""

from tests.plainwords import plain_reach
from tests.samples import all_permits
from underwraps.books import Book


class Refusal(Exception):
    """A deed is refused: by which error, and what it holds."""

    def __init__(self, error, held):
        self.error = error
        self.held = held


class PlainDesk:
    """A desk, read from [20] line by line; each deed is kept as a function of what was there."""

    def __init__(self, roles, labels):
        self.roles, self.labels = sorted(roles), sorted(labels)
        self.there = ([], [], [])
        self.before, self.after = [], []

    def book(self, permits):
        return Book(self.roles, self.labels, sorted(permits))

    def first_out(self, there):
        """Return the first guarded key that would be told."""
        permits, given, guarded = there
        for asked in guarded:
            makes = isinstance(asked[0], int) or asked[0] == "known" or ("make", asked[0]) in permits
            if makes and "known" in plain_reach(self.book(permits), given, asked):
                return asked
        return None

    def is_permit(self, thing):
        return tuple(thing) in all_permits(self.roles, self.labels)

    def is_asked(self, asked):
        root, word = asked
        there = root in range(len(self.there[1])) if isinstance(root, int) else root == "known" or ("make", root) in self.there[0]
        return there and all([label in self.labels for label in word])

    def deed(self, word, there):
        if word in ("allow", "give", "guard"):
            out = self.first_out(there)
            if out is not None:
                raise Refusal("LetsOut", out)
        self.before.append((word, self.there))
        self.after = []
        self.there = there

    def allow(self, permit):
        permits, given, guarded = self.there
        if not self.is_permit(permit):
            raise Refusal("BadPermit", permit)
        if tuple(permit) in permits:
            raise Refusal("IsAllowed", permit)
        self.deed("allow", (permits + [tuple(permit)], given, guarded))

    def forbid(self, permit):
        permits, given, guarded = self.there
        if not self.is_permit(permit):
            raise Refusal("BadPermit", permit)
        if tuple(permit) not in permits:
            raise Refusal("NotAllowed", permit)
        self.deed("forbid", ([other for other in permits if other != tuple(permit)], given, guarded))

    def give(self, some):
        permits, given, guarded = self.there
        if sorted(set(some)) != list(some) or not set(some) <= set(self.roles):
            raise Refusal("BadGiven", some)
        self.deed("give", (permits, given + [list(some)], guarded))
        return len(given)

    def guard(self, asked):
        permits, given, guarded = self.there
        if not self.is_asked(asked):
            raise Refusal("BadAsked", asked)
        if (asked[0], tuple(asked[1])) in guarded:
            raise Refusal("IsGuarded", asked)
        self.deed("guard", (permits, given, guarded + [(asked[0], tuple(asked[1]))]))

    def free(self, asked):
        permits, given, guarded = self.there
        same = (asked[0], tuple(asked[1]))
        if same not in guarded:
            raise Refusal("NotGuarded" if self.is_asked(asked) else "BadAsked", asked)
        self.deed("free", (permits, given, [other for other in guarded if other != same]))

    def undo(self):
        if not self.before:
            return None
        word, there = self.before.pop()
        self.after.append((word, self.there))
        self.there = there
        return word

    def redo(self):
        if not self.after:
            return None
        word, there = self.after.pop()
        self.before.append((word, self.there))
        self.there = there
        return word

    def shown(self):
        """Return what two desks are equal by."""
        rows = [("", self.there)] + self.after
        return self.roles, self.labels, [(word, sorted(permits), given, guarded) for word, (permits, given, guarded) in rows]
