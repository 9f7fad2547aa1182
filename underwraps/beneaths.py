"""Beneath: the roles whose keys may lie under told keys, or under keys that lie there, and why each may."""

from underwraps.growth import Growth, pairs_called
from underwraps.leading import states_led
from underwraps.paths import Paths, by_first, shortest_path
from underwraps.searches import reached_by
from underwraps.states import root_states, states_of


class Beneath:
    """The roles beneath a lot, by ties and pairs.

    A source is where a key stands of which somebody learns: a root and one of its first states, or a role
    beneath and another state of the same key.
    """

    def __init__(self, book, given, lot, ties, pairs):
        self.paths = Paths(book, ties)
        self.mates = by_first(pairs)
        self.wraps = by_first([permit[1:] for permit in book.all_permits() if permit[0] == "wrap"])
        self.begun = [(at, role) for at in lot for role in given[at]]
        # By state: the states to which it comes, as a search tells them.
        self.roads = {state: reached_by(state, self.paths.steps_from) for state in states_of(book)}
        # By role beneath, as they came: the source of a key that comes to a role, that role, by which it is wrapped.
        self.whys = {}
        fresh = self.take(self.begun)
        while fresh:
            fresh = self.take(self.sources_by(fresh))

    def sources_by(self, roles):
        """Return the sources of the keys that have some roles beneath."""
        return [(role, mate) for role in roles for mate in self.mates.get(role, [])]

    def wrapped_by(self, source):
        """Return the roles that a key of a source wraps, each with the role that the key comes to for it."""
        return [(role, closer) for closer in self.roads[source[1]] for role in self.wraps.get(closer, [])]

    def take(self, sources):
        """Have all roles beneath that keys of some sources wrap; return those that were not there."""
        fresh = []
        for source in sources:
            for role, closer in self.wrapped_by(source):
                if role not in self.whys:
                    self.whys[role] = (source, closer)
                    fresh.append(role)
        return fresh

    def road(self, state, later):
        """Return a word and places by which a key comes from a state to another one."""
        ahead, steps, place = self.roads[state], [], later
        while ahead[place] is not None:
            earlier, label = ahead[place]
            steps.append((label, place))
            place = earlier
        word, path = (), [(0, state)]
        for label, to in reversed(steps):
            word = word if label is None else word + (label,)
            path.append((len(word), to))
        return (word, path)

    def is_enough(self, roles):
        """Tell whether some roles are all that this lot, and each one of them, wants."""
        wanted = [role for source in self.begun + self.sources_by(roles) for role, _ in self.wrapped_by(source)]
        return all([role in roles for role in wanted])


def least_beneath(book, given, lot):
    """Return the growth of the least machine, and what is beneath a lot by it."""
    growth = Growth(book, given, {})
    ties, pairs = pairs_called("tie", growth.ranks), pairs_called("pair", growth.ranks)
    return (growth, Beneath(book, given, lot, ties, pairs))


def beginnings(asked):
    """Return the asked key, and those that it is behind, shorter ones ahead."""
    root, word = asked
    return [(root, word[:many]) for many in range(len(word) + 1)]


def is_sheltered(paths, given, lot, roles, asked):
    """Tell whether an asked key does not come out, is none of a lot, nor behind one, nor leads to some roles."""
    if asked[0] in lot or "known" in states_led(paths, given, asked):
        return False
    led = [states_led(paths, given, ahead) for ahead in beginnings(asked)]
    return not any([role in states for states in led for role in roles])


def first_path(paths, given, asked, states):
    """Return a beginning of an asked key, and places by which it comes to one of some states; None if none does."""
    for ahead in beginnings(asked):
        for state in states:
            path = shortest_path(paths, root_states(given, ahead[0]), ahead[1], state)
            if path is not None:
                return (ahead, path)
    return None
