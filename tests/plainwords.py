"""A slow plain reading of sections 9, 11 and 12 of the document, written beside the program, not of it."""

from tests.plain import HANDLES, PlainHouse, Refused, is_under, makes_handle, parts, plain_knows, plain_log, saturated
from tests.plainrules import plain_leads, plain_moves, plain_roots, plain_states, plain_wants, tied

HANDS = ("bring", "unwrap", "seal", "open")


def plain_least(book, start):
    """Return the sets of the ties and the pairs of the least machine, wanted again and again."""
    ties, pairs = set(), set()
    while True:
        more_ties, more_pairs = plain_wants(book, start, ties, pairs)
        if more_ties <= ties and more_pairs <= pairs:
            return ties, pairs
        ties, pairs = ties | more_ties, pairs | more_pairs


def plain_reach(book, start, asked):
    return plain_leads(book, start, plain_least(book, start)[0], asked)


def roots_in(log):
    """Return the roles with which a log makes its keys, in order."""
    return [call[1] for call in log if call[0] == "make"]


def keys_asked(log, asked):
    """Return the keys of an asked key behind a log, of own ones the first nine."""
    root, word = asked
    if root == "known":
        return [(("own", number), tuple(word)) for number in range(9)]
    if isinstance(root, int):
        return [(("given", root), tuple(word))]
    return [(("made", number), tuple(word)) for number, role in enumerate(roots_in(log)) if role == root]


def plain_brings(permits, start, log, asked, state):
    """Tell whether a list of calls is a log that brings an asked key to a state, by 9.1."""
    house, _, fault = plain_log(permits, start, log)
    if fault is not None:
        return False
    keys = keys_asked(log, asked)
    if state == "known":
        return any([plain_knows(house.out, key) for key in keys])
    return any([(key, state) in house.handles for key in keys])


def all_keys(house, labels):
    """Return the keys that a user may hand over who tries all: known ones with one label, and own ones."""
    universe = {(("own", 0), ())}.union(*[parts(thing) for thing in house.out])
    keys = {key for key in saturated(house.out, universe) if not is_under(key)}
    return sorted(keys | {(base, word + (label,)) for base, word in keys for label in labels if len(word) < 1})


def all_calls(book, house):
    """Return the calls that a user may try: all but those that hand over things that are deep."""
    roles, labels, numbers = book.all_roles(), book.all_labels(), range(len(house.handles))
    keys = all_keys(house, labels)
    things = keys + sorted({thing for thing in house.out if is_under(thing)}, key=repr)
    closed = [("under", key, other) for key in keys for other in keys]
    calls = [("make", r) for r in roles] + [("bring", r, key) for r in roles for key in keys]
    for h in numbers:
        calls += [("show", h)] + [("copy", h, s) for s in roles] + [("wrap", h, g) for g in numbers]
        calls += [("derive", h, x, s) for x in labels for s in roles] + [("seal", h, thing) for thing in things]
        calls += [("open", h, thing) for thing in things + closed]
        calls += [("unwrap", h, thing, s) for thing in things + closed for s in roles]
    return calls


def all_logs(book, start, many):
    """Return, for all that logs of at most so many calls come to, one such log: (log, house)."""
    level, seen = [([], PlainHouse(book.all_permits(), start))], {}
    while level:
        further = []
        for log, house in level:
            place = (tuple(house.handles), tuple(sorted(house.out, key=repr)), house.made)
            if place in seen:
                continue
            seen[place] = (log, house)
            for call in all_calls(book, house) if len(log) < many else []:
                other = PlainHouse(book.all_permits(), start)
                other.handles, other.out, other.made = list(house.handles), list(house.out), house.made
                try:
                    other.call(call)
                except Refused:
                    continue
                further.append((log + [call], other))
        level = further
    return list(seen.values())


def led_keys(thing, led):
    """Return a thing with each key in it led over by a function of keys."""
    if is_under(thing):
        return ("under", led_keys(thing[1], led), led_keys(thing[2], led))
    return led(thing)


def led_call_by(call, places, led):
    """Return a call with its handles' places, and each key in it led over."""
    out = list(call)
    for at in range(1, 1 + HANDLES.get(call[0], 0)):
        out[at] = places[call[at]]
    if call[0] in HANDS:
        out[2] = led_keys(call[2], led)
    return tuple(out)


def stand_in(log, key):
    """Return the stand-in of a key of a log, by 11.2."""
    (word, number), labels = key
    made = roots_in(log)
    if word == "own":
        return (("own", 0), labels)
    if word == "made":
        return (("made", len(set(made[:made.index(made[number])]))), labels)
    return key


def plain_led_over(book, start, log):
    """Return led_over, by 11.2, call by call."""
    _, answers, _ = plain_log(book.all_permits(), start, log)
    given = sum([len(row) for row in start])
    places, firsts, lean = list(range(given)), {}, []
    many = given
    for call, answer in zip(log, answers):
        if call[0] == "make" and call[1] in firsts:
            places.append(firsts[call[1]])
            continue
        if (call[0] == "seal" and is_under(call[2])) or (call[0] == "open" and is_under(answer)):
            continue
        lean.append(led_call_by(call, places, lambda key: stand_in(log, key)))
        if makes_handle(call):
            if call[0] == "make":
                firsts[call[1]] = many
            places.append(many)
            many += 1
    return lean, places, [stand_in(log, (("made", number), ())) for number in range(len(roots_in(log)))]


def plain_is_lean(book, start, log):
    """Tell whether a log is lean, by 11.1."""
    _, answers, _ = plain_log(book.all_permits(), start, log)
    handed = [call[2] for call in log if call[0] in HANDS]
    keys = {key for thing in handed for part in parts(thing) if not is_under(part) for key in [part]}
    return (
        len(set(roots_in(log))) == len(roots_in(log))
        and all([key[0] == ("own", 0) for key in keys if key[0][0] == "own"])
        and not any([call[0] == "seal" and is_under(call[2]) for call in log])
        and not any([call[0] == "open" and is_under(answer) for call, answer in zip(log, answers)])
    )


def plain_led_by(book, start, first, log, table):
    """Return led_by, by 11.4, call by call."""
    ahead, _, _ = plain_log(book.all_permits(), start, first)
    after, _, _ = plain_log(book.all_permits(), start, log)
    whole, made, numbers = list(first), len(roots_in(first)), {}
    for number in range(len(roots_in(log))):
        if ("made", number) not in table:
            numbers[number] = made
            made += 1

    def led(key):
        base, word = key
        if base in table:
            return (table[base][0], tuple(table[base][1]) + word)
        return ((("made", numbers[base[1]]), word)) if base[0] == "made" else key

    given, places, many = sum([len(row) for row in start]), [], len(ahead.handles)
    for number in range(given):
        (base, _), role = after.handles[number]
        places.append(ahead.handles.index((led((base, ())), role)) if base in table else number)
    makes = 0
    for call in log:
        base = ("made", makes)
        makes += call[0] == "make"
        if call[0] == "make" and base in table:
            places.append(ahead.handles.index((led((base, ())), call[1])))
            continue
        whole.append(led_call_by(call, places, led))
        if makes_handle(call):
            places.append(many)
            many += 1
    return whole, places, [led((("made", number), ())) for number in range(makes)]


def plain_rows(book, start, root):
    """Return the rows of all lots of states, dicts: (out, by label), and the first lot, by 7.3."""
    ties, moves = plain_least(book, start)[0], plain_moves(book)
    states = plain_states(book)
    lots = [frozenset(s for at, s in enumerate(states) if code >> at & 1) for code in range(2 ** len(states))]
    after = {
        lot: {x: frozenset(tied(ties, {q for p, y, q in moves if y == x and p in lot})) for x in book.all_labels()}
        for lot in lots
    }
    return {lot: ("known" in lot, after[lot]) for lot in lots}, frozenset(tied(ties, plain_roots(book, start)[root]))


def parted_lots(rows):
    """Return the pairs of lots that some word parts: longer words by shorter ones."""
    parted = {(one, other) for one in rows for other in rows if rows[one][0] != rows[other][0]}
    while True:
        more = {
            (one, other) for one in rows for other in rows
            if any([(rows[one][1][x], rows[other][1][x]) in parted for x in rows[one][1]])
        } - parted
        if not more:
            return parted
        parted |= more


def joined_table(rows, first):
    """Return the table of the lots to which words lead from the first one, joined where no word parts them."""
    parted = parted_lots(rows)
    order, steps = [first], []
    for lot in order:
        row = []
        for x in sorted(rows[lot][1]):
            later = rows[lot][1][x]
            like = [other for other in order if (later, other) not in parted]
            if not like:
                order.append(later)
                like = [later]
            row.append(order.index(like[0]))
        steps.append((rows[lot][0], tuple(row)))
    return steps
