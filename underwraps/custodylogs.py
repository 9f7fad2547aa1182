"""Custody logs: where they are refused, and what is there behind them."""

from underwraps.books import need_book, start_rows
from underwraps.custodies import need_custody, need_tellers
from underwraps.custodyplays import play_custody
from underwraps.errors import BadLog


def play_passed(book, start, custody, tellers, thing):
    """Return the play of any object and its fault; raise the error of what is wrong ahead of it."""
    need_book(book)
    given = start_rows(book, start)
    found = need_custody(book, custody)
    return play_custody(book, given, found, need_tellers(found, tellers), thing)


def custody_fault(book, start, custody, tellers, thing):
    """Return where and why any object is no custody log, None for one."""
    _, fault = play_passed(book, start, custody, tellers, thing)
    return fault


def custody_played(book, start, custody, tellers, log):
    """Return the handles, the known keys and, by key, who got parts of it, behind a custody log."""
    play, fault = play_passed(book, start, custody, tellers, log)
    if fault is not None:
        raise BadLog(fault[0])
    holders = {key: sorted(play.got[key]) for key in sorted(play.got)}
    return (play.house.handles(), play.house.known_keys(), holders)
