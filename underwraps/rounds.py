"""Rounds: how early each call of a log can be done, wherever it stands."""

from underwraps.deeds import MAKERS
from underwraps.knowledge import Known


def rounds_of(play):
    """Return, deed by deed, the first round in which it can be done."""
    rounds = [0 for _ in play.deeds]
    there = {number: True for number in range(play.given)}
    known = Known()
    number = 0
    while 0 in rounds:
        number += 1
        ready = [at for at in range(len(rounds)) if rounds[at] == 0 and is_ready(play.deeds[at], there, known)]
        for at in ready:
            rounds[at] = number
            if play.deeds[at].word in MAKERS:
                there[play.told[at]] = True
            else:
                known.take(play.told[at])
    return rounds


def is_ready(deed, there, known):
    """Tell whether what a deed names is there, and what it hands over known."""
    if not all([number in there for number in deed.numbers]):
        return False
    return deed.nest is None or known.has(deed.nest)
