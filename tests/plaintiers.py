"""A slow plain reading of sections 13 and 14 of the document, written beside the program, not of it."""

from itertools import product

from tests.plainrules import plain_moves, plain_roots, plain_states, plain_wants
from tests.plainwords import plain_rows


def all_lots(things):
    """Return all parts of a list of things, as sets."""
    things = list(things)
    return [frozenset([thing for at, thing in enumerate(things) if code >> at & 1]) for code in range(2 ** len(things))]


def plain_bunches(book, start, root):
    """Return all lots of states to which one key of a root is led, whatever its word."""
    rows, first = plain_rows(book, start, root)
    found = [first]
    for lot in found:
        found += [later for later in rows[lot][1].values() if later not in found]
    return found


def plain_groups(book, start, root):
    """Return groups, by 13.2, going through all lots of states."""
    bunches = plain_bunches(book, start, root)
    had = [lot for lot in all_lots(plain_states(book)) if any([lot <= bunch for bunch in bunches])]
    return sorted([sorted(lot) for lot in had if not any([lot < other for other in had])])


def plain_group_fault(book, start, ties, table):
    """Return group_fault of what is right in form, by 13.4."""
    roots, moves = plain_roots(book, start), plain_moves(book)
    rows = list(zip(roots, [[set(group) for group in row] for row in table]))
    for root, row in rows:
        if not any([roots[root] <= group for group in row]):
            return ("start", root)
    for root, row in rows:
        for index, group in enumerate(row):
            for p, q in sorted(map(tuple, ties)):
                if p in group and q not in group:
                    return ("over", root, index, (p, q))
    for root, row in rows:
        for index, group in enumerate(row):
            for label in book.all_labels():
                later = {q for p, x, q in moves if x == label and p in group}
                if not any([later <= other for other in row]):
                    return ("go", root, index, label)
    pairs = {(p, q) for _, row in rows for group in row for p in group for q in group}
    for tie in sorted(plain_wants(book, start, [], pairs)[0]):
        if tie not in set(map(tuple, ties)):
            return ("lacks", tie)
    return None


def grown_table(dice, book, start, ties, table):
    """Return a right group table that has ties, and in whose groups are those of table: sets of sets by root."""
    roots, moves = plain_roots(book, start), plain_moves(book)
    ties, table = set(ties), {root: list(table.get(root, [])) or [set()] for root in roots}
    for root in roots:
        table[root].append(set(roots[root]))
    while True:
        before = (len(ties), sorted([(str(root), sorted(map(sorted, row))) for root, row in table.items()]))
        for root, row in table.items():
            for group in list(row):
                for _ in ties:
                    group |= {q for p, q in ties if p in group}
                for label in book.all_labels():
                    later = {q for p, x, q in moves if x == label and p in group}
                    if not any([later <= other for other in row]):
                        if dice.number(2):
                            dice.one(row).update(later)
                        else:
                            row.append(later)
        pairs = {(p, q) for row in table.values() for group in row for p in group for q in group}
        ties |= plain_wants(book, start, [], pairs)[0]
        if before == (len(ties), sorted([(str(root), sorted(map(sorted, row))) for root, row in table.items()])):
            unlike = [sorted({tuple(sorted(group)) for group in row}) for row in table.values()]
            return sorted(ties), [[list(group) for group in row] for row in unlike]


def plain_fits(book, start, tiers, below):
    """Return tiers_fault of a tiering, by 14.1."""
    if tiers["known"] != 0 or below[0] != 0:
        return ("known", 0)
    for index, roles in enumerate(start):
        if len({tiers[role] for role in roles}) > 1:
            return ("given", index)
    for permit in book.all_permits():
        word, r, s = permit[0], permit[1], permit[-1]
        right = {
            "make": True, "copy": tiers[r] == tiers[s], "derive": tiers[r] == tiers[s], "bring": tiers[r] == 0,
            "show": tiers[r] == 0, "wrap": below[tiers[r]] == tiers[s], "unwrap": below[tiers[r]] == tiers[s],
            "seal": below[tiers[r]] == 0, "open": below[tiers[r]] == 0,
        }[word]
        if not right:
            return ("permit", permit)
    return None


def all_tierings(book, start):
    """Return all tierings that fit, of at most as many tiers as there are states."""
    states, found = plain_states(book), []
    for many in range(1, len(states) + 1):
        for numbers in product(range(many), repeat=len(states)):
            tiers = dict(zip(states, numbers))
            for below in product([None, *range(many)], repeat=many):
                if plain_fits(book, start, tiers, below) is None:
                    found.append((tiers, list(below)))
    return found


def plain_is_levels(book, start, levels):
    """Tell whether a dict from the states to numbers is levels, by 14.4."""
    if levels["known"] != 0 or any([len({levels[role] for role in roles}) > 1 for roles in start]):
        return False
    for permit in book.all_permits():
        word, r, s = permit[0], permit[1], permit[-1]
        right = {
            "make": True, "copy": levels[r] == levels[s], "derive": levels[r] == levels[s], "bring": levels[r] == 0,
            "show": levels[r] == 0, "wrap": levels[r] == levels[s] + 1, "unwrap": levels[r] == levels[s] + 1,
            "seal": levels[r] == 1, "open": levels[r] == 1,
        }[word]
        if not right:
            return False
    return True


def all_levels(book, start):
    """Return all levels whose numbers are less than there are states, and one more."""
    states = plain_states(book)
    every = [dict(zip(states, numbers)) for numbers in product(range(len(states) + 1), repeat=len(states))]
    return [levels for levels in every if plain_is_levels(book, start, levels)]


def plain_steps(book, start):
    """Return (step, from, to, fall) of each step there is, by 14.5."""
    found = []
    for permit in book.all_permits():
        word, r, s = permit[0], permit[1], permit[-1]
        if word != "make":
            begin, end = {"bring": ("known", r), "show": (r, "known"), "seal": (r, "known"), "open": (r, "known")}.get(word, (r, s))
            found.append((permit, begin, end, int(word in ("wrap", "unwrap", "seal", "open"))))
    for number, roles in enumerate(start):
        found += [(("given", number, r, s), r, s, 0) for r in roles for s in roles if r != s]
    return [((why, "on"), begin, end, fall) for why, begin, end, fall in found] + [
        ((why, "back"), end, begin, -fall) for why, begin, end, fall in found]


def plain_is_bar(book, start, walk):
    """Tell whether a list of pairs is a bar, by 14.5."""
    ways = {step: (begin, end, fall) for step, begin, end, fall in plain_steps(book, start)}
    if not walk or any([step not in ways for step in walk]):
        return False
    for step, later in zip(walk, walk[1:]):
        if ways[step][1] != ways[later][0]:
            return False
    begin, end, fall = ways[walk[0]][0], ways[walk[-1]][1], sum([ways[step][2] for step in walk])
    return (begin == end and fall != 0) or (begin == "known" and fall > 0)


def fewest_steps(book, start, most):
    """Return how many steps the shortest bar has, None if none has at most so many: all walks, state by state."""
    steps = plain_steps(book, start)
    ends = {(state, state, 0) for state in plain_states(book)}
    for many in range(1, most + 1):
        ends = {(first, end, fall + more) for first, at, fall in ends for _, begin, end, more in steps if begin == at}
        if any([(first == end and fall != 0) or (first == "known" and fall > 0) for first, end, fall in ends]):
            return many
    return None
