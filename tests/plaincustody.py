"""A slow plain reading of section 19 of the document, written beside the program, not of it."""

from itertools import combinations

from tests.plain import PlainHouse, Refused, plain_knows
from tests.plainrules import plain_moves, plain_roots, plain_states, tied
from tests.plainwords import all_calls


def names_of(custody):
    """Return the ascending list of the custodians of a custody."""
    return sorted({name for _, name in custody[1]})


class PlainCustodyHouse(PlainHouse):
    """A house with custodians, read from 19.2 line by line."""

    def __init__(self, permits, start, custody, tellers):
        PlainHouse.__init__(self, permits, start)
        self.need, self.parts, self.joins = custody[0], [tuple(part) for part in custody[1]], list(custody[2])
        self.tellers = list(tellers)
        # Who got parts of which keys; in out stands whatever the user knows, as if it had come out.
        self.got = []

    def call(self, call):
        if call[0] == "part":
            return self.part(call[1], call[2])
        if call[0] == "join":
            return self.join(call[1], call[2])
        return PlainHouse.call(self, call)

    def part(self, number, name):
        if number >= len(self.handles):
            raise Refused("handle", number)
        key, role = self.handles[number]
        if (role, name) not in self.parts:
            raise Refused("part", name)
        self.got.append((key, name))
        if len({who for other, who in self.got if other == key and who in self.tellers}) >= self.need:
            self.out.append(key)

    def join(self, key, role):
        if role not in self.joins:
            raise Refused("join", role)
        holders = {who for other, who in self.got if other == key}
        if plain_knows(self.out, key):
            holders |= set(self.tellers)
        if len(holders) < self.need:
            raise Refused("need", key)
        return self.handle(key, role)

    def holders(self):
        return {key: sorted({who for other, who in self.got if other == key}) for key in sorted({key for key, _ in self.got})}


def plain_custody_log(permits, start, custody, tellers, log):
    """Return (house, fault) of a list of calls."""
    house = PlainCustodyHouse(permits, start, custody, tellers)
    for index, call in enumerate(log):
        try:
            house.call(call)
        except Refused as refused:
            return house, (index, refused.why)
    return house, None


def plain_hull(custody, tellers, ties, states):
    """Return the set of the hull of some states, by 19.3, rule by rule, again and again."""
    need, parts, joins = custody
    found = set(states)
    while True:
        more = tied(ties, found)
        gets = {name for name in names_of(custody) if any([(role, name) in [tuple(part) for part in parts] for role in found])}
        if len(gets & set(tellers)) >= need:
            more.add("known")
        if len(gets | (set(tellers) if "known" in found else set())) >= need:
            more |= set(joins)
        if more <= found:
            return found
        found |= more


def plain_custody_by(book, custody, tellers, ties, states, label):
    """Return the set of the hull of all states to which moves by a label lead from some."""
    return plain_hull(custody, tellers, ties, {q for p, x, q in plain_moves(book) if x == label and p in states})


def plain_custody_leads(book, start, custody, tellers, ties, asked):
    """Return the set of the states to which an asked key is led, by 19.3."""
    root, word = asked
    found = plain_hull(custody, tellers, ties, plain_roots(book, start)[root])
    for label in word:
        found = plain_custody_by(book, custody, tellers, ties, found, label)
    return found


def plain_led_ties(book, bunches):
    """Return the set of the ties that 8.1 wants, p and q being any two states of one of some bunches."""
    has, roles, ties = set(book.all_permits()), book.all_roles(), set()
    for permit in has:
        ties |= {
            "copy": {permit[1:]}, "bring": {("known", permit[1])}, "show": {(permit[1], "known")},
        }.get(permit[0], set())
    for bunch in bunches:
        for p in bunch:
            for q in bunch:
                wrapped = {s for s in roles if ("wrap", q, s) in has}
                had = {t for t in roles if ("unwrap", p, t) in has}
                ties |= {(s, t) for s in wrapped for t in had}
                if p == "known" or ("open", p) in has:
                    ties |= {(s, "known") for s in wrapped}
                if q == "known" or ("seal", q) in has:
                    ties |= {("known", t) for t in had}
    return {(p, q) for p, q in ties if p != q}


def plain_custody_lack(book, start, custody, tellers, machine):
    """Return custody_lack of a machine, by 19.4."""
    ties, bunches = [tuple(tie) for tie in machine[0]], [tuple(bunch) for bunch in machine[1]]
    wanted = [plain_hull(custody, tellers, ties, firsts) for firsts in plain_roots(book, start).values()]
    wanted += [plain_custody_by(book, custody, tellers, ties, bunch, label) for bunch in bunches for label in book.all_labels()]
    lacks = sorted({tuple(sorted(bunch)) for bunch in wanted} - set(bunches))
    if lacks:
        return ("bunch", list(lacks[0]))
    lacks = sorted(plain_led_ties(book, bunches) - set(ties))
    return ("tie", *lacks[0]) if lacks else None


def plain_custody_least(book, start, custody, tellers):
    """Return the least custody machine: ties are added that lack, and all bunches told by them, until none lacks."""
    ties = set()
    while True:
        bunches = [frozenset(plain_hull(custody, tellers, ties, firsts)) for firsts in plain_roots(book, start).values()]
        for bunch in bunches:
            later = [frozenset(plain_custody_by(book, custody, tellers, ties, bunch, label)) for label in book.all_labels()]
            bunches += [other for other in dict.fromkeys(later) if other not in bunches]
        more = plain_led_ties(book, bunches)
        if more <= ties:
            return sorted(ties), sorted([sorted(bunch) for bunch in set(bunches)])
        ties |= more


def plain_custody_reach(book, start, custody, tellers, asked):
    """Return the set of the states to which an asked key is brought."""
    ties, _ = plain_custody_least(book, start, custody, tellers)
    return plain_custody_leads(book, start, custody, tellers, ties, asked)


def all_tellers(custody):
    """Return all lists of custodians, shorter ones ahead."""
    names = names_of(custody)
    return [list(some) for many in range(len(names) + 1) for some in combinations(names, many)]


def lots_of_states(book):
    """Return all ascending lists of states."""
    states = plain_states(book)
    return [list(some) for many in range(len(states) + 1) for some in combinations(states, many)]


def all_custody_calls(book, custody, house):
    """Return the calls that a user may try with custodians: all but those that hand over things that are deep."""
    numbers = range(len(house.handles))
    keys = sorted({key for key, _ in house.handles} | {key for key, _ in house.got} | {(("own", 0), ())})
    handed = [("part", number, name) for number in numbers for name in names_of(custody)]
    return all_calls(book, house) + handed + [("join", key, role) for key in keys for role in custody[2]]


def all_custody_logs(book, start, custody, tellers, many):
    """Return, for all that custody logs of at most so many calls come to, one such log: (log, house)."""
    level, seen = [([], PlainCustodyHouse(book.all_permits(), start, custody, tellers))], {}
    while level:
        further = []
        for log, house in level:
            place = (tuple(house.handles), tuple(sorted(map(repr, house.out))), house.made, tuple(sorted(house.got)))
            if place in seen:
                continue
            seen[place] = (log, house)
            for call in all_custody_calls(book, custody, house) if len(log) < many else []:
                other = PlainCustodyHouse(book.all_permits(), start, custody, tellers)
                other.handles, other.out, other.made, other.got = list(house.handles), list(house.out), house.made, list(house.got)
                try:
                    other.call(call)
                except Refused:
                    continue
                further.append((log + [call], other))
        level = further
    return list(seen.values())
