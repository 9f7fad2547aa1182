"""Hulls: all states that a key comes to over ties, and by parts of it with custodians."""

from underwraps.paths import Paths, all_reached


class Hulls(Paths):
    """The paths of moves, of ties, and of what custodians do with parts of keys."""

    def __init__(self, book, ties, custody, tellers):
        Paths.__init__(self, book, ties)
        self.custody = custody
        self.tellers = tellers

    def over(self, states):
        """Return the hull of some states, ascending."""
        found = all_reached(self.overs, states)
        more = self.brought(found)
        while more:
            found = all_reached(self.overs, list(found) + more)
            more = self.brought(found)
        return found

    def holders(self, states):
        """Return the custodians who come to hold a key in some states."""
        telling = self.tellers if "known" in states else []
        return [name for name in self.custody.names if name in telling or self.custody.may_hold(name, states)]

    def telling(self, states):
        """Return the tellers who may get a part of a key in some states."""
        return [name for name in self.tellers if self.custody.may_hold(name, states)]

    def brought(self, states):
        """Return the states to which custodians bring a key in some states, and that are not among these."""
        more = []
        if len(self.telling(states)) >= self.custody.need:
            more = more + ["known"]
        if len(self.holders(states)) >= self.custody.need:
            more = more + self.custody.joins
        return [state for state in more if state not in states]
