"""Lean logs: one key of each role, one own key, nothing closed twice; and what any log is led over to."""

from underwraps.books import need_book, start_rows
from underwraps.deeds import call_of
from underwraps.plays import need_play, play_calls
from underwraps.renumbering import led_deed, makes_of, new_numbers, with_given

OWN = (("own", 0), ())


def first_makes(play):
    """Return a dict from each role to the index of the first make call of it."""
    firsts = {}
    for at in makes_of(play):
        firsts.setdefault(play.deeds[at].tail[0], at)
    return firsts


def takes_keys(deed):
    """Tell whether a deed seals a key, or opens what a key comes out of, if it seals or opens at all."""
    if deed.word == "seal":
        return len(deed.nest) == 1
    return deed.word != "open" or len(deed.nest) == 2


def lean_order(play):
    """Return the list of the indexes of the calls that a lean log keeps."""
    firsts = first_makes(play)
    return [
        at
        for at, deed in enumerate(play.deeds)
        if takes_keys(deed) and (deed.word != "make" or firsts[deed.tail[0]] == at)
    ]


def own_bases(play):
    """Return the list of the bases of the user's own keys that a play's calls name."""
    keys = [key for deed in play.deeds if deed.nest is not None for key in deed.nest]
    return [base for base, _ in keys if base[0] == "own"]


def is_lean(book, start, thing):
    """Tell whether any object is a lean log."""
    need_book(book)
    given = start_rows(book, start)
    play, fault = play_calls(book, given, thing)
    if fault is not None or len(lean_order(play)) < len(play.deeds):
        return False
    return all([base == OWN[0] for base in own_bases(play)])


def led_over(book, start, log):
    """Return the lean log of a log, and what the log's handles and made keys are led over to."""
    play = need_play(book, start, log)
    order, firsts, makes = lean_order(play), first_makes(play), makes_of(play)
    places, bases = new_numbers(play, order, play.given, 0)
    places = with_given(play, places)
    for made, at in enumerate(makes):
        first = firsts[play.deeds[at].tail[0]]
        places[play.told[at]] = places[play.told[first]]
        bases[("made", made)] = bases[("made", makes.index(first))]
    for base in own_bases(play):
        bases[base] = OWN
    return (
        [call_of(led_deed(play.deeds[at], places, bases)) for at in order],
        [places[number] for number in range(len(places))],
        [bases[("made", made)] for made in range(len(makes))],
    )
