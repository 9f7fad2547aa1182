"""Hulls: all states that a key comes to over ties, and by parts of it with custodians."""

from underwraps.paths import Paths, all_reached


class Hulls:
    """The paths of moves, of ties, and of what custodians do with parts of keys."""

    def __init__(self, book, ties, custody, tellers):
        self.paths = Paths(book, ties)
        self.labels = self.paths.labels
        self.custody = custody
        self.tellers = tellers

    def over(self, states):
        """Return the hull of some states, ascending."""
        found = all_reached(self.paths.overs, states)
        more = self.brought(found)
        while more:
            found = all_reached(self.paths.overs, list(found) + more)
            more = self.brought(found)
        return found

    def by(self, states, label):
        """Return, ascending, the hull of the states to which moves by a label lead from some."""
        return self.over(self.paths.moved(states, label))

    def telling(self, states):
        """Return the tellers who may get a part of a key in some states."""
        return [name for name in self.tellers if self.custody.may_hold(name, states)]

    def holding(self, states):
        """Return the custodians who may come to hold a key in some states."""
        known = "known" in states
        names = self.custody.names
        return [name for name in names if (known and name in self.tellers) or self.custody.may_hold(name, states)]

    def brought(self, states):
        """Return the states to which custodians bring a key in some states, and that are not among these."""
        more = []
        if len(self.telling(states)) >= self.custody.need:
            more = more + ["known"]
        if len(self.holding(states)) >= self.custody.need:
            more = more + self.custody.joins
        return [state for state in more if state not in states]
