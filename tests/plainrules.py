"""A slow plain reading of sections 7, 8 and 10 of the document, written beside the program, not of it."""

from itertools import combinations, product


def plain_states(book):
    return sorted(["known", *book.all_roles()])


def plain_moves(book):
    moves = {(r, x, s) for _, r, x, s in [permit for permit in book.all_permits() if permit[0] == "derive"]}
    return moves | {("known", x, "known") for x in book.all_labels()}


def plain_roots(book, start):
    """Return a dict from each root to the set of its first states, in the order of roots_of."""
    roots = {number: set(roles) for number, roles in enumerate(start)}
    makes = [permit[1] for permit in book.all_permits() if permit[0] == "make"]
    for state in sorted(makes + ["known"]):
        roots[state] = {state}
    return roots


def all_words(labels, longest):
    """Return all words of at most so many labels, shorter ones ahead, those of one length ascending."""
    return [word for many in range(longest + 1) for word in product(sorted(labels), repeat=many)]


def all_asked(book, start, longest):
    return [(root, word) for word in all_words(book.all_labels(), longest) for root in plain_roots(book, start)]


def all_pairs(book):
    return [(p, q) for p in plain_states(book) for q in plain_states(book)]


def all_ties(book):
    return [(p, q) for p, q in all_pairs(book) if p != q]


def tied(ties, states):
    """Return states, and all to which ties lead from them, again and again."""
    found = set(states)
    while True:
        more = {q for p, q in ties if p in found} - found
        if not more:
            return found
        found |= more


def plain_leads(book, start, ties, asked):
    """Return the set of the states to which ties lead an asked key, by 7.3."""
    root, word = asked
    if not word:
        return tied(ties, plain_roots(book, start)[root])
    ahead = plain_leads(book, start, ties, (root, word[:-1]))
    return tied(ties, {q for p, x, q in plain_moves(book) if x == word[-1] and p in ahead})


def plain_wants(book, start, ties, pairs):
    """Return the sets of the ties and of the pairs that a machine wants, by 8.1."""
    has = set(book.all_permits())
    roles = book.all_roles()
    wanted = {(p, q) for firsts in plain_roots(book, start).values() for p in firsts for q in firsts}
    for p, q in pairs:
        for (a, x, p2), (b, y, q2) in product(plain_moves(book), repeat=2):
            if (a, b) == (p, q) and x == y:
                wanted.add((p2, q2))
        wanted |= {(p2, q) for a, p2 in ties if a == p} | {(p, q2) for b, q2 in ties if b == q}
    led = set()
    for permit in has:
        if permit[0] == "copy":
            led.add((permit[1], permit[2]))
        if permit[0] == "bring":
            led.add(("known", permit[1]))
        if permit[0] == "show":
            led.add((permit[1], "known"))
    for p, q in pairs:
        for s in roles:
            if ("wrap", q, s) in has:
                if p == "known" or ("open", p) in has:
                    led.add((s, "known"))
                led |= {(s, t) for t in roles if ("unwrap", p, t) in has}
        for t in roles:
            if ("unwrap", p, t) in has and (q == "known" or ("seal", q) in has):
                led.add(("known", t))
    return {(p, q) for p, q in led if p != q}, wanted


def plain_closed(book, start, ties, pairs):
    more_ties, more_pairs = plain_wants(book, start, ties, pairs)
    return more_ties <= set(ties) and more_pairs <= set(pairs)


def closed_machines(book, start):
    """Return all closed machines, as sets of ("tie", p, q) and ("pair", p, q), by a search through all there are."""
    facts = [("tie", *tie) for tie in all_ties(book)] + [("pair", *pair) for pair in all_pairs(book)]
    places = {fact: 1 << at for at, fact in enumerate(facts)}

    def wanted(some):
        ties, pairs = plain_wants(
            book, start, [fact[1:] for fact in some if fact[0] == "tie"], [fact[1:] for fact in some if fact[0] == "pair"])
        return sum([places[("tie", *tie)] for tie in ties]) + sum([places[("pair", *pair)] for pair in pairs])

    # No rule asks for more than a tie and a pair at once.
    rules = [(sum([places[fact] for fact in some]), wanted(some)) for many in range(3) for some in combinations(facts, many)]
    rules = [(needs, wants) for needs, wants in rules if wants & ~needs]
    found = []
    for mask in range(1 << len(facts)):
        if all([needs & ~mask or not wants & ~mask for needs, wants in rules]):
            found.append({fact for fact in facts if places[fact] & mask})
    return found


def machine_with(facts):
    """Return the machine of facts, both lists ascending."""
    return tuple([sorted([fact[1:] for fact in facts if fact[0] == word]) for word in ("tie", "pair")])


def facts_in(machine):
    """Return the set of the facts of a machine."""
    return {("tie", *tie) for tie in machine[0]} | {("pair", *pair) for pair in machine[1]}


def plain_rows(book, start, said):
    """Return (row, what it says, what it needs) for each right row behind those that said so, by 10.1."""
    roles, labels, has = book.all_roles(), book.all_labels(), set(book.all_permits())
    moves, states = plain_moves(book), plain_states(book)
    rows = []
    for root, firsts in plain_roots(book, start).items():
        rows += [(("start", root, p, q), ("pair", p, q), ()) for p in firsts for q in firsts]
    for permit in has:
        says = {
            "copy": ("tie", permit[1], permit[-1]), "bring": ("tie", "known", permit[1]), "show": ("tie", permit[1], "known"),
        }.get(permit[0])
        if says and says[1] != says[2]:
            rows.append((("let", permit), says, ()))
    for i, pair in enumerate(said):
        if pair[0] != "pair":
            continue
        _, a, b = pair
        for x, p, q in product(labels, states, states):
            if (a, x, p) in moves and (b, x, q) in moves:
                rows.append((("moved", i, x, p, q), ("pair", p, q), (pair,)))
        for j, tie in enumerate(said):
            if tie[0] == "tie" and tie[1] == a:
                rows.append((("first", i, j), ("pair", tie[2], b), (pair, tie)))
            if tie[0] == "tie" and tie[1] == b:
                rows.append((("second", i, j), ("pair", a, tie[2]), (pair, tie)))
        for p, q in product(states, states):
            wrap, unwrap = ("wrap", b, p) in has, ("unwrap", a, q) in has
            right = [
                p in roles and q in roles and wrap and unwrap,
                p in roles and q == "known" and wrap and (a == "known" or ("open", a) in has),
                p == "known" and q in roles and unwrap and (b == "known" or ("seal", b) in has),
            ]
            if p != q and any(right):
                rows.append((("led", i, p, q), ("tie", p, q), (pair,)))
    return rows


def plain_said(book, start, rows):
    """Return what rows say, as far as they are right."""
    said = []
    for row in rows:
        right = {row: says for row, says, _ in plain_rows(book, start, said)}
        if row not in right:
            return said
        said.append(right[row])
    return said


def plain_proof_fault(book, start, asked, state, proof):
    """Return proof_fault of a proof, made of tuples, whose form is right, by 10.2."""
    rows, first, steps = proof
    said = plain_said(book, start, rows)
    if len(said) < len(rows):
        return ("row", len(said))
    if first not in plain_roots(book, start)[asked[0]]:
        return ("first", 0)
    at, left = first, list(asked[1])
    for index, step in enumerate(steps):
        right = {("over", j): fact[2] for j, fact in enumerate(said) if fact[0] == "tie" and fact[1] == at}
        if left:
            right.update({("go", s): s for p, x, s in plain_moves(book) if (p, x) == (at, left[0])})
        if step not in right:
            return ("step", index)
        at = right[step]
        if step[0] == "go":
            left.pop(0)
    return None if not left and at == state else ("end", len(steps))


def plain_ranks(book, start, facts):
    """Return the rank of each fact of the least machine, by 10.5: lessened until no row makes it less."""
    rows = [(says, needs) for _, says, needs in plain_rows(book, start, sorted(facts))]
    ranks = {fact: 10 ** 6 for fact in facts}
    while True:
        least = dict(ranks)
        for says, needs in rows:
            least[says] = min(least[says], 1 + max([ranks[need] for need in needs], default=0))
        if least == ranks:
            return ranks
        ranks = least


def plain_ranks_fault(book, start, ties, pairs):
    """Return ranks_fault of two dicts whose form is right, by 10.5."""
    table = {("tie", *tie): rank for tie, rank in ties.items()}
    table.update({("pair", *pair): rank for pair, rank in pairs.items()})
    rows = plain_rows(book, start, sorted(table))
    for word in ("tie", "pair"):
        for p, q in all_pairs(book):
            said = [1 + max([table[need] for need in needs], default=0) for _, says, needs in rows if says == (word, p, q)]
            if table.get((word, p, q)) != min(said, default=None):
                return (word, p, q)
    return None
