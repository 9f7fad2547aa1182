"""Led over: handles have other numbers, and keys are other ones, where the calls that made them stand otherwise."""

from underwraps.deeds import CALLS, MAKERS, Deed


def led_key(key, bases):
    """Return what a key is led over to, None if it is gone.

    bases tells of each base that does not stay what key it is led over to, None if it is gone.
    """
    base, word = key
    if base not in bases:
        return key
    return None if bases[base] is None else (bases[base][0], bases[base][1] + word)


def led_nest(nest, bases):
    """Return a nest with its keys led over, None if one of them is gone."""
    keys = [led_key(key, bases) for key in nest]
    return None if None in keys else tuple(keys)


def led_part(kind, part, places, bases):
    """Return a part of a deed with new numbers and keys, None if what it names is gone."""
    if kind == "handle":
        return places.get(part)
    return led_nest(part, bases) if kind in ("key", "thing") else part


def led_deed(deed, places, bases):
    """Return a deed with new numbers and keys, None if what it names is gone."""
    parts = [led_part(kind, part, places, bases) for kind, part in zip(CALLS[deed.word], deed.parts)]
    return None if None in parts else Deed(deed.word, parts)


def makes_of(play):
    """Return the list of the indexes of a play's make calls."""
    return [at for at, deed in enumerate(play.deeds) if deed.word == "make"]


def new_numbers(play, order, handles, made):
    """Return two dicts, if just these deeds are done, in order, behind so many handles and made keys.

    places has the new numbers of the handles that they make; bases has for each key that the play made what
    it is led over to, None if its make call is not among the deeds.
    """
    makes = makes_of(play)
    places = {}
    bases = {("made", number): None for number in range(len(makes))}
    for at in order:
        if play.deeds[at].word in MAKERS:
            places[play.told[at]] = handles + len(places)
        if play.deeds[at].word == "make":
            bases[("made", makes.index(at))] = (("made", made), ())
            made += 1
    return (places, bases)


def with_given(play, places):
    """Return the new numbers of handles with those of given keys, that stay."""
    found = {number: number for number in range(play.given)}
    found.update(places)
    return found


def play_in_order(play, order):
    """Return the play of just these deeds, in order, led over, and what made keys are led over to.

    The play is None if that is no log.
    """
    places, bases = new_numbers(play, order, play.given, 0)
    places = with_given(play, places)
    deeds = [led_deed(play.deeds[at], places, bases) for at in order]
    return (None if None in deeds else play.again(deeds), bases)


def play_without(play, index):
    """Return the play of all deeds but one, led over, and what made keys are led over to, as play_in_order."""
    return play_in_order(play, [at for at in range(len(play.deeds)) if at != index])


def play_behind(play, other):
    """Return the play of all deeds of one play, and, led over, all of another from the same start behind it."""
    handles, made = len(play.house.handles()), len(makes_of(play))
    places, bases = new_numbers(other, list(range(len(other.deeds))), handles, made)
    places = with_given(other, places)
    return play.again(play.deeds + [led_deed(deed, places, bases) for deed in other.deeds])
