"""Leaders: they write the logs by which keys are led over moves and ties."""

from underwraps.forms import is_number
from underwraps.growth import facts_under
from underwraps.nests import key_by


def start_numbers(given):
    """Return a dict from each given key's number and role to the number of its handle."""
    rows = [(at, role) for at, roles in enumerate(given) for role in roles]
    return {row: number for number, row in enumerate(rows)}


def ties_along(path):
    """Return the ties, as facts, over which a path leads: those steps by which no label goes."""
    return [("tie", at[1], to[1]) for at, to in zip(path, path[1:]) if at[0] == to[0]]


class Leader:
    """Writes the calls by which keys are led over moves, and over ties, each one for its ground.

    A spot is where a key stands: the number of a handle, None where the key is known.
    """

    def __init__(self, given, grounds):
        self.grounds = grounds
        self.calls = []
        # By root: the base of the key that is led for whatever is asked, and its spots, by word and state.
        self.begun = {}
        # By pair: the key that is kept to lead others, and its spots in both states.
        self.kept = {}
        self.numbers = start_numbers(given)
        self.many_handles = len(self.numbers)
        self.made = 0

    def new_handle(self, call):
        """Write a call that makes a handle; return its number."""
        self.calls.append(call)
        self.many_handles += 1
        return self.many_handles - 1

    def begin(self, root):
        """Return the base of a key of a root, made now, if it is to be, and its spots, by first state."""
        if is_number(root):
            return (("given", root), {role: self.numbers[(at, role)] for at, role in self.numbers if at == root})
        if root == "known":
            return (("own", 0), {"known": None})
        base = ("made", self.made)
        self.made += 1
        return (base, {root: self.new_handle(("make", root))})

    def make_ready(self, goals):
        """Keep a key for each tie of which some facts come, and that needs one."""
        for fact in facts_under(self.grounds, goals):
            ground = self.grounds[fact]
            if ground.word == "led" and ground.needs[0] not in self.kept:
                self.kept[ground.needs[0]] = self.keeper(ground.needs[0])

    def keeper(self, pair):
        """Lead a new key to both states of a pair, ready for whatever comes behind it; return it with its spots."""
        chain = [pair]
        while self.grounds[chain[-1]].word != "start":
            chain.append(self.grounds[chain[-1]].needs[0])
        root, first, second = self.grounds[chain[-1]].tail
        base, spots = self.begin(root)
        key, both = (base, ()), (spots[first], spots[second])
        for fact in reversed(chain[:-1]):
            key, both = self.further(key, both, self.grounds[fact])
        return (key, both)

    def further(self, key, both, ground):
        """Lead a key, or its next key, from two spots for one ground; return it with its spots then."""
        if ground.word == "first":
            return (key, (self.over(key, both[0], ground.needs[1]), both[1]))
        if ground.word == "second":
            return (key, (both[0], self.over(key, both[1], ground.needs[1])))
        label, first, second = ground.tail
        spot = self.move(both[0], label, first)
        # In one state one handle is enough.
        return (key_by(key, label), (spot, spot if first == second else self.move(both[1], label, second)))

    def move(self, spot, label, state):
        """Have the next key of what stands at a spot in a state; return its spot."""
        return None if spot is None else self.new_handle(("derive", spot, label, state))

    def over(self, key, spot, tie):
        """Lead a key from a spot over a tie; return its spot then."""
        ground = self.grounds[tie]
        if ground.word == "led":
            return self.under(self.kept[ground.needs[0]], key, spot, ground.tail)
        word, later = ground.tail[0][0], tie[2]
        if word == "bring":
            return self.new_handle((word, later, key))
        if word == "copy":
            return self.new_handle((word, spot, later))
        self.calls.append((word, spot))
        return None

    def under(self, keeper, key, spot, tie):
        """Lead a key over a tie by closing it under a key that is kept, and taking it from there."""
        closing, (opener, closer) = keeper
        thing = ("under", closing, key)
        if tie[0] != "known":
            self.calls.append(("wrap", closer, spot))
        elif closer is not None:
            self.calls.append(("seal", closer, key))
        if tie[1] != "known":
            return self.new_handle(("unwrap", opener, thing, tie[1]))
        if opener is not None:
            self.calls.append(("open", opener, thing))
        return None

    def step(self, key, spot, word, both):
        """Lead a key by a step of a path: over a tie, or to its next key by a word's label; return its spot then."""
        (gone, state), (later, to) = both
        if later == gone:
            return self.over((key[0], key[1] + word[:gone]), spot, ("tie", state, to))
        return self.move(spot, word[gone], to)

    def lead_on(self, key, spot, word, path):
        """Lead a key from a spot along a path, by a word; return its spot then."""
        for both in zip(path, path[1:]):
            spot = self.step(key, spot, word, both)
        return spot

    def lead(self, asked, path):
        """Lead a key of an asked key along a path whose ties are ready; return the key."""
        root, word = asked
        if root not in self.begun:
            base, firsts = self.begin(root)
            self.begun[root] = (base, {((), state): firsts[state] for state in firsts})
        base, spots = self.begun[root]
        for both in zip(path, path[1:]):
            (gone, state), (later, to) = both
            if (word[:later], to) not in spots:
                spots[(word[:later], to)] = self.step((base, ()), spots[(word[:gone], state)], word, both)
        return (base, word)


def led_along(given, grounds, found):
    """Return a log by which a key of each asked key is led along a path, and the list of these keys."""
    leader = Leader(given, grounds)
    leader.make_ready([tie for _, path in found for tie in ties_along(path)])
    keys = [leader.lead(asked, path) for asked, path in found]
    return (leader.calls, keys)
