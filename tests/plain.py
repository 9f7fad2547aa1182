"""A slow plain reading of sections 4 to 6 of the document, written beside the program, not of it."""


def is_under(thing):
    return len(thing) == 3


def prefixes(key):
    base, word = key
    return [(base, word[:many]) for many in range(len(word) + 1)]


def parts(thing):
    """Return all that stands in a thing: things in it, keys, and the keys that these are behind."""
    if not is_under(thing):
        return set(prefixes(thing))
    return {thing} | parts(thing[1]) | parts(thing[2])


def saturated(things, universe):
    """Return what of a universe is known to whoever has things: rule by rule, again and again."""
    known = set(things)
    known |= {thing for thing in universe if not is_under(thing) and thing[0][0] == "own" and not thing[1]}
    while True:
        more = set()
        for thing in universe:
            if is_under(thing):
                if thing[1] in known and thing[2] in known:
                    more.add(thing)
            elif thing[1] and (thing[0], thing[1][:-1]) in known:
                more.add(thing)
        for thing in known:
            if is_under(thing) and thing[1] in known:
                more.add(thing[2])
        if more <= known:
            return known
        known |= more


def plain_knows(things, thing):
    """Tell whether a thing is known, by the rules over what stands in it and in things."""
    universe = set()
    for each in list(things) + [thing]:
        universe |= parts(each)
    return thing in saturated(things, universe)


def keys_of(bases, labels, longest):
    """Return all keys of bases with words of at most so many labels."""
    words = [()]
    for word in words:
        if len(word) < longest:
            words.extend([word + (label,) for label in labels])
    return [(base, word) for base in bases for word in words]


def things_of(keys, deepest):
    """Return all things of keys, at most so deep."""
    rows = [list(keys)]
    for _ in range(deepest):
        rows.append([("under", key, thing) for key in keys for thing in rows[-1]])
    return [thing for row in rows for thing in row]


def way_things(things, labels, way):
    """Return the things that the steps of a way have, as far as they are right."""
    found = []
    for step in way:
        try:
            found.append(way_thing(things, labels, found, step))
        except (LookupError, AssertionError):
            return found
    return found


def way_thing(things, labels, found, step):
    if step[0] == "had":
        return things[step[1]]
    if step[0] == "own":
        return (("own", step[1]), ())
    key = found[step[1]]
    assert not is_under(key)
    if step[0] == "next":
        assert step[2] in labels
        return (key[0], key[1] + (step[2],))
    if step[0] == "close":
        return ("under", key, found[step[2]])
    whole = found[step[2]]
    assert is_under(whole) and whole[1] == key
    return whole[2]


class Refused(Exception):
    """A call is refused: why, and what the error holds."""

    def __init__(self, why, what):
        self.why = why
        self.what = what


HANDLES = {"show": 1, "copy": 1, "derive": 1, "wrap": 2, "unwrap": 1, "seal": 1, "open": 1}


class PlainHouse:
    """A house, read from [5] line by line."""

    def __init__(self, permits, start):
        self.permits = [tuple(permit) for permit in permits]
        self.handles = [((("given", at), ()), role) for at, row in enumerate(start) for role in row]
        self.out = []
        self.made = 0

    def call(self, call):
        word = call[0]
        numbers = call[1:1 + HANDLES.get(word, 0)]
        for number in numbers:
            if number >= len(self.handles):
                raise Refused("handle", number)
        roles = tuple([self.handles[number][1] for number in numbers])
        if self.permit(call, roles) not in self.permits:
            raise Refused("permit", self.permit(call, roles))
        handed = call[2] if word in ("bring", "unwrap", "seal", "open") else None
        if handed is not None and not plain_knows(self.out, handed):
            raise Refused("known", handed)
        if word in ("unwrap", "open"):
            if not is_under(handed) or handed[1] != self.handles[call[1]][0]:
                raise Refused("under", handed)
            if word == "unwrap" and is_under(handed[2]):
                raise Refused("inner", handed[2])
        return self.done(call, [self.handles[number][0] for number in numbers])

    def permit(self, call, roles):
        word = call[0]
        if word in ("make", "bring"):
            return (word, call[1])
        if word == "copy":
            return (word, *roles, call[2])
        if word == "derive":
            return (word, *roles, call[2], call[3])
        if word == "unwrap":
            return (word, *roles, call[3])
        return (word, *roles)

    def done(self, call, keys):
        word = call[0]
        if word == "make":
            self.made += 1
            return self.handle((("made", self.made - 1), ()), call[1])
        if word == "bring":
            return self.handle(call[2], call[1])
        if word == "copy":
            return self.handle(keys[0], call[2])
        if word == "derive":
            return self.handle((keys[0][0], keys[0][1] + (call[2],)), call[3])
        if word == "unwrap":
            return self.handle(call[2][2], call[3])
        if word == "show":
            return self.comes(keys[0])
        if word == "wrap":
            return self.comes(("under", keys[0], keys[1]))
        if word == "seal":
            return self.comes(("under", keys[0], call[2]))
        return self.comes(call[2][2])

    def handle(self, key, role):
        self.handles.append((key, role))
        return len(self.handles) - 1

    def comes(self, thing):
        self.out.append(thing)
        return thing


def plain_log(permits, start, log):
    """Return (house, answers, fault) of a list of calls."""
    house, answers = PlainHouse(permits, start), []
    for index, call in enumerate(log):
        try:
            answers.append(house.call(call))
        except Refused as refused:
            return house, answers, (index, refused.why)
    return house, answers, None


def makes_handle(call):
    return call[0] in ("make", "bring", "copy", "derive", "unwrap")


def led_thing(thing, makes):
    """Return a thing with its made keys' new numbers; a KeyError if one has none."""
    if is_under(thing):
        return ("under", led_thing(thing[1], makes), led_thing(thing[2], makes))
    (word, number), labels = thing
    return ((word, makes[number] if word == "made" else number), labels)


def led_call(call, places, makes):
    """Return a call with new numbers; a KeyError if what it names has none."""
    out = list(call)
    for at in range(1, 1 + HANDLES.get(call[0], 0)):
        out[at] = places[call[at]]
    if call[0] in ("bring", "unwrap", "seal", "open"):
        out[2] = led_thing(call[2], makes)
    return tuple(out)


def numbers_for(given, log, order):
    """Return the new numbers of handles and of made keys if just the calls of order are done, in order."""
    handles, makes, made = {}, {}, {}
    for index, call in enumerate(log):
        if makes_handle(call):
            handles[index] = given + len(handles)
        if call[0] == "make":
            made[index] = len(made)
    places = {number: number for number in range(given)}
    for index in order:
        if makes_handle(log[index]):
            places[handles[index]] = len(places)
        if log[index][0] == "make":
            makes[made[index]] = len(makes)
    return places, makes


def led_log(given, log, order):
    """Return (the calls of order, led over, made keys' new numbers), None for calls whose handles are gone."""
    places, makes = numbers_for(given, log, order)
    try:
        return [led_call(log[index], places, makes) for index in order], makes
    except KeyError:
        return None, makes
