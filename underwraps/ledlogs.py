"""Logs led by tables: a log behind another one, with keys of that one in the place of its own."""

from underwraps.deeds import call_of
from underwraps.errors import BadFirst, BadTable
from underwraps.logs import log_of
from underwraps.nests import read_base, read_key
from underwraps.plays import need_play, play_calls
from underwraps.renumbering import led_deed, makes_of, new_numbers


def least_handles(house):
    """Return a dict from each key and role that a handle has to the number of the least such handle."""
    found = {}
    for number, handle in enumerate(house.handles()):
        found.setdefault(handle, number)
    return found


def roles_wanted(play, base):
    """Return the roles that a key must have that stands in for a base, no own one, None if there is no such base."""
    word, number = base
    if word == "given":
        start = play.house.start()
        return start[number] if number < len(start) else None
    makes = makes_of(play)
    return [play.deeds[makes[number]].tail[0]] if number < len(makes) else None


def stands_in(ahead, play, base, key):
    """Tell whether a key can stand in for a base of a play, behind the play ahead of it."""
    if base[0] == "own":
        return ahead.house.is_known((key,))
    wanted, handles = roles_wanted(play, base), least_handles(ahead.house)
    return wanted is not None and all([(key, role) in handles for role in wanted])


def need_bases(book, ahead, play, table):
    """Return the table that is passed, from bases to keys; raise BadTable for none."""
    if not isinstance(table, dict):
        raise BadTable(table)
    found = {}
    for thing in table:
        base, key = read_base(thing), read_key(book, table[thing])
        if base is None or key is None or not stands_in(ahead, play, base, key):
            raise BadTable(table)
        found[base] = key
    return found


def led_by(book, start, first, log, table):
    """Return a log behind another one, led over by a table, and what its handles and made keys are led over to."""
    ahead, fault = play_calls(book, start, first)
    if fault is not None:
        raise BadFirst(fault[0])
    play = need_play(book, start, log)
    found = need_bases(book, ahead, play, table)
    makes = makes_of(play)
    gone = [at for made, at in enumerate(makes) if ("made", made) in found]
    order = [at for at in range(len(play.deeds)) if at not in gone]
    places, bases = new_numbers(play, order, len(ahead.house.handles()), len(makes_of(ahead)))
    bases.update(found)
    handles = least_handles(ahead.house)
    for number, (key, role) in enumerate(play.house.handles()):
        if number not in places:
            # No call makes this one now: its key has it that stands in, or it is a given key's that stays.
            places[number] = handles[(bases.get(key[0], key), role)]
    calls = [call_of(led_deed(play.deeds[at], places, bases)) for at in order]
    return (
        log_of(ahead) + calls,
        [places[number] for number in range(len(places))],
        [bases[("made", made)] for made in range(len(makes))],
    )
