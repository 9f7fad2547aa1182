"""Custody verdicts: told or never, with custodians."""

from underwraps.books import need_book, start_rows
from underwraps.custodies import need_custody, need_tellers
from underwraps.custodygrowth import CustodyGrowth
from underwraps.custodyleaders import custody_log
from underwraps.custodymachines import first_custody_lack, machine_grown, read_custody_machine
from underwraps.custodyplays import play_custody
from underwraps.forms import first_word
from underwraps.hulls import Hulls
from underwraps.leading import states_led
from underwraps.states import need_asked, need_state
from underwraps.verdicts import is_brought


def custody_verdict(book, start, custody, tellers, asked, state):
    """Return ("told", a custody log that brings an asked key to a state), or ("never", the least machine)."""
    need_book(book)
    given = start_rows(book, start)
    found = need_custody(book, custody)
    growth = CustodyGrowth(book, given, found, need_tellers(found, tellers))
    goal = need_asked(book, given, asked)
    need_state(book, state)
    if state in states_led(growth.hulls(len(growth.grounds)), given, goal):
        return ("told", custody_log(growth, goal, state))
    return ("never", machine_grown(growth))


def custody_brings(book, given, custody, tellers, asked, state, thing):
    """Tell whether any object is a custody log that brings an asked key to a state."""
    play, fault = play_custody(book, given, custody, tellers, thing)
    return fault is None and is_brought(play.house, asked, state)


def custody_keeps(book, given, custody, tellers, asked, state, thing):
    """Tell whether any object is a closed custody machine by whose ties an asked key is not led to a state."""
    machine = read_custody_machine(book, thing)
    if machine is None or first_custody_lack(book, given, custody, tellers, machine) is not None:
        return False
    return state not in states_led(Hulls(book, machine[0], custody, tellers), given, asked)


def custody_judged(book, start, custody, tellers, asked, state, thing):
    """Return the first word of any object that is a right verdict with custodians, else None."""
    need_book(book)
    given = start_rows(book, start)
    found = need_custody(book, custody)
    telling = need_tellers(found, tellers)
    goal = need_asked(book, given, asked)
    need_state(book, state)
    word = first_word(thing)
    if word not in ("told", "never") or len(thing) != 2:
        return None
    if word == "told":
        right = custody_brings(book, given, found, telling, goal, state, thing[1])
    else:
        right = custody_keeps(book, given, found, telling, goal, state, thing[1])
    return word if right else None
