"""The rules of closed machines: what each fact makes.

A fact is ("tie", p, q) or ("pair", p, q): what stands in a machine, or is wanted there.
"""

from underwraps.leading import first_pairs
from underwraps.paths import Paths, by_first
from underwraps.states import all_roots, states_of


class Ground:
    """Why a fact is wanted: the facts of which it is made, and what stands beside them in the row of a proof."""

    def __init__(self, says, word, needs, tail):
        self.says = says
        self.word = word
        self.needs = needs
        self.tail = tail


def let_tie(permit):
    """Return the tie for which a permit is enough by itself, None if there is none."""
    word = permit[0]
    if word == "copy" and permit[1] != permit[2]:
        return permit[1:]
    if word == "bring":
        return ("known", permit[1])
    return (permit[1], "known") if word == "show" else None


def let_grounds(book):
    """Return the grounds of the ties for which one permit is enough."""
    ties = [(let_tie(permit), permit) for permit in book.all_permits()]
    return [Ground(("tie",) + tie, "let", (), (permit,)) for tie, permit in ties if tie is not None]


def start_grounds(book, given):
    """Return the grounds of the pairs of first states."""
    return [
        Ground(("pair",) + pair, "start", (), (root,) + pair)
        for root in all_roots(book, given)
        for pair in first_pairs(given, root)
    ]


def first_ground(pair, tie):
    """Return the ground of the pair that comes of a pair by a tie from its first state."""
    return Ground(("pair", tie[2], pair[2]), "first", (pair, tie), ())


def second_ground(pair, tie):
    """Return the ground of the pair that comes of a pair by a tie from its second state."""
    return Ground(("pair", pair[1], tie[2]), "second", (pair, tie), ())


class Rules:
    """What a book and given keys with some roles make each closed machine have."""

    def __init__(self, book, given):
        permits = book.all_permits()
        self.states = states_of(book)
        self.paths = Paths(book, [])
        self.wraps = by_first([permit[1:] for permit in permits if permit[0] == "wrap"])
        self.unwraps = by_first([permit[1:] for permit in permits if permit[0] == "unwrap"])
        # Who knows a key opens with it, and closes under it, himself.
        self.openers = ["known"] + [permit[1] for permit in permits if permit[0] == "open"]
        self.sealers = ["known"] + [permit[1] for permit in permits if permit[0] == "seal"]
        self.begun = start_grounds(book, given) + let_grounds(book)

    def wanted(self, facts):
        """Return the grounds of all that a machine of these facts wants, some perhaps twice."""
        return self.begun + [ground for fact in facts for ground in self.made_of(fact, facts)]

    def made_of(self, fact, facts):
        """Return the grounds of all that one of the facts makes, alone or with another one."""
        if fact[0] == "tie":
            return self.with_tie(fact, facts)
        return self.moved_to(fact) + self.tied_by(fact) + self.with_pair(fact, facts)

    def with_tie(self, tie, facts):
        """Return the grounds of the pairs that a tie makes with pairs among the facts."""
        firsts = [("pair", tie[1], state) for state in self.states]
        seconds = [("pair", state, tie[1]) for state in self.states]
        return (
            [first_ground(pair, tie) for pair in firsts if pair in facts]
            + [second_ground(pair, tie) for pair in seconds if pair in facts]
        )

    def with_pair(self, pair, facts):
        """Return the grounds of the pairs that a pair makes with ties among the facts."""
        firsts = [("tie", pair[1], state) for state in self.states]
        seconds = [("tie", pair[2], state) for state in self.states]
        return (
            [first_ground(pair, tie) for tie in firsts if tie in facts]
            + [second_ground(pair, tie) for tie in seconds if tie in facts]
        )

    def moved_to(self, pair):
        """Return the grounds of the pairs to which moves by one label lead a pair."""
        return [
            Ground(("pair",) + later, "moved", (pair,), (label,) + later)
            for label in self.paths.labels
            for later in self.paths.moved_pairs(pair[1:], label)
        ]

    def tied_by(self, pair):
        """Return the grounds of the ties over which one key that leads to both states of a pair leads others."""
        _, by, under = pair
        wrapped, had = self.wraps.get(under, []), self.unwraps.get(by, [])
        ties = [(state, later) for state in wrapped for later in had if state != later]
        if by in self.openers:
            ties += [(state, "known") for state in wrapped]
        if under in self.sealers:
            ties += [("known", later) for later in had]
        return [Ground(("tie",) + tie, "led", (pair,), tie) for tie in ties]
