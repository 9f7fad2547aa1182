"""Logs: calls that are let one behind another, and how they are led over."""

from underwraps.deeds import MAKERS, call_of
from underwraps.errors import BadBehind, BadIndex, Untold
from underwraps.forms import is_number
from underwraps.nests import need_key, thing_of
from underwraps.plays import need_play, play_calls
from underwraps.renumbering import led_key, play_behind, play_in_order, play_without
from underwraps.rounds import rounds_of


def log_of(play):
    """Return the log of a play."""
    return [call_of(deed) for deed in play.deeds]


def log_fault(book, start, thing):
    """Return where and why any object is no log, None for a log."""
    _, fault = play_calls(book, start, thing)
    return fault


def played(book, start, log):
    """Return the house behind a log."""
    return need_play(book, start, log).house


def log_answers(book, start, log):
    """Return the list of what the calls of a log told: numbers of handles, things."""
    play = need_play(book, start, log)
    return [
        told if deed.word in MAKERS else thing_of(told)
        for deed, told in zip(play.deeds, play.told)
    ]


def log_tells(book, start, log, key):
    """Tell whether a key is known by what came out by a log."""
    play = need_play(book, start, log)
    return play.house.is_known((need_key(book, key),))


def permits_used(book, start, log):
    """Return the ascending list of the permits by which the calls of a log were let."""
    return sorted(set(need_play(book, start, log).permits))


def left_out(book, start, log, index):
    """Return the log without one call, led over, None if that is no log."""
    play = need_play(book, start, log)
    if not is_number(index) or index >= len(play.deeds):
        raise BadIndex(index)
    left, _ = play_without(play, index)
    return None if left is None else log_of(left)


def thinned_log(book, start, log, key):
    """Return a log, no part of which tells the key, and the key, led over."""
    play = need_play(book, start, log)
    found = need_key(book, key)
    if not play.house.is_known((found,)):
        raise Untold(key)
    for index in reversed(range(len(play.deeds))):
        left, bases = play_without(play, index)
        if left is None:
            continue
        # The key is not gone with this call: some later one names whatever makes a key that is told.
        led = led_key(found, bases)
        if left.house.is_known((led,)):
            play, found = left, led
    return (log_of(play), found)


def log_behind(book, start, log, other):
    """Return a log, and behind it the calls of another one, led over."""
    play = need_play(book, start, log)
    second, fault = play_calls(book, start, other)
    if fault is not None:
        raise BadBehind(fault[0])
    return log_of(play_behind(play, second))


def log_rounds(book, start, log):
    """Return, call by call, the first round in which it can be done."""
    return rounds_of(need_play(book, start, log))


def in_rounds(book, start, log):
    """Return the log with the calls of lesser rounds ahead, led over."""
    play = need_play(book, start, log)
    rounds = rounds_of(play)
    order = sorted(range(len(rounds)), key=lambda at: rounds[at])
    in_order, _ = play_in_order(play, order)
    return log_of(in_order)
