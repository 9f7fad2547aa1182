"""Led over: handles and made keys have other numbers where the calls that made them stand otherwise."""

from underwraps.deeds import CALLS, MAKERS, Deed


def led_key(key, makes):
    """Return a key with its make call's new number, None if that call is gone."""
    base, word = key
    if base[0] != "made":
        return key
    return (("made", makes[base[1]]), word) if base[1] in makes else None


def led_nest(nest, makes):
    """Return a nest with its keys led over, None if one of them is gone."""
    keys = [led_key(key, makes) for key in nest]
    return None if None in keys else tuple(keys)


def led_part(kind, part, places, makes):
    """Return a part of a deed with new numbers, None if what it names is gone."""
    if kind == "handle":
        return places.get(part)
    return led_nest(part, makes) if kind in ("key", "thing") else part


def led_deed(deed, places, makes):
    """Return a deed with new numbers, None if what it names is gone."""
    parts = [led_part(kind, part, places, makes) for kind, part in zip(CALLS[deed.word], deed.parts)]
    return None if None in parts else Deed(deed.word, parts)


def new_numbers(play, order):
    """Return two dicts: the new numbers of handles, and of made keys, if just these deeds are done, in order."""
    made = [at for at, deed in enumerate(play.deeds) if deed.word == "make"]
    places = {number: number for number in range(play.given)}
    makes = {}
    for at in order:
        if play.deeds[at].word in MAKERS:
            places[play.told[at]] = len(places)
        if play.deeds[at].word == "make":
            makes[made.index(at)] = len(makes)
    return (places, makes)


def play_in_order(play, order):
    """Return the play of just these deeds, in order, led over, and the new numbers of made keys.

    The play is None if that is no log.
    """
    places, makes = new_numbers(play, order)
    deeds = [led_deed(play.deeds[at], places, makes) for at in order]
    return (None if None in deeds else play.again(deeds), makes)


def play_without(play, index):
    """Return the play of all deeds but one, led over, and the new numbers of made keys, as play_in_order."""
    return play_in_order(play, [at for at in range(len(play.deeds)) if at != index])


def count_of(play, words):
    """Return how many deeds of a play have one of these words."""
    return len([deed for deed in play.deeds if deed.word in words])


def play_behind(play, other):
    """Return the play of all deeds of one play, and, led over, all of another from the same start behind it."""
    places = {number: number for number in range(play.given)}
    for number in range(play.given, play.given + count_of(other, MAKERS)):
        places[number] = number + count_of(play, MAKERS)
    makes = {made: made + count_of(play, ("make",)) for made in range(count_of(other, ("make",)))}
    return play.again(play.deeds + [led_deed(deed, places, makes) for deed in other.deeds])
