"""Custody machines: where asked keys lead with custodians, and which machines are closed."""

from underwraps.books import need_book, start_rows
from underwraps.custodies import need_custody, need_tellers
from underwraps.custodygrowth import CustodyGrowth, led_by_pairs, let_by, pairs_in
from underwraps.errors import BadMachine
from underwraps.forms import first_wrong, is_list
from underwraps.hulls import Hulls
from underwraps.leading import states_led
from underwraps.rules import Rules
from underwraps.states import all_roots, is_state, need_asked, root_states
from underwraps.ties import need_ties, read_tie


def custody_leads(book, start, custody, tellers, ties, asked):
    """Return the ascending list of the states to which ties, and custodians, lead an asked key."""
    need_book(book)
    given = start_rows(book, start)
    found = need_custody(book, custody)
    telling = need_tellers(found, tellers)
    hulls = Hulls(book, need_ties(book, ties), found, telling)
    return list(states_led(hulls, given, need_asked(book, given, asked)))


def read_bunch(book, thing):
    """Return the ascending list of unlike states that any object is, as a tuple, None if it is none."""
    if not is_list(thing) or not all([is_state(book, part) for part in thing]):
        return None
    return tuple(thing) if all([state < later for state, later in zip(thing, thing[1:])]) else None


def read_custody_machine(book, thing):
    """Return the ties and the bunches of the custody machine that any object is, None if it is none."""
    if not is_list(thing) or len(thing) != 2 or not all([is_list(part) for part in thing]):
        return None
    ties = [read_tie(book, part) for part in thing[0]]
    bunches = [read_bunch(book, part) for part in thing[1]]
    if first_wrong(ties) is not None or first_wrong(bunches) is not None:
        return None
    return (ties, bunches)


def bunches_wanted(book, given, hulls, bunches):
    """Return the bunches that a machine of some bunches wants, some perhaps more than once."""
    firsts = [hulls.over(root_states(given, root)) for root in all_roots(book, given)]
    return firsts + [hulls.by(bunch, label) for bunch in bunches for label in hulls.labels]


def ties_wanted(book, given, bunches):
    """Return the ties that a machine of some bunches wants, some perhaps more than once."""
    rules = Rules(book, given)
    pairs = sorted(set([pair for bunch in bunches for pair in pairs_in(bunch)]))
    return [ground.says[1:] for ground in let_by(rules) + led_by_pairs(rules, pairs)]


def first_custody_lack(book, given, custody, tellers, machine):
    """Return the first thing that a custody machine wants and has not, None if it is closed."""
    ties, bunches = machine
    hulls = Hulls(book, ties, custody, tellers)
    lacks = [bunch for bunch in bunches_wanted(book, given, hulls, bunches) if bunch not in bunches]
    if lacks:
        return ("bunch", list(min(lacks)))
    lacks = [tie for tie in ties_wanted(book, given, bunches) if tie not in ties]
    return ("tie",) + min(lacks) if lacks else None


def custody_lack(book, start, custody, tellers, machine):
    """Return the first thing that a custody machine wants and has not, None if it is closed."""
    need_book(book)
    given = start_rows(book, start)
    found = need_custody(book, custody)
    telling = need_tellers(found, tellers)
    read = read_custody_machine(book, machine)
    if read is None:
        raise BadMachine(machine)
    return first_custody_lack(book, given, found, telling, read)


def machine_grown(growth):
    """Return the custody machine of a growth."""
    return (sorted(growth.grounds), [list(bunch) for bunch in growth.bunches])


def custody_machine(book, start, custody, tellers):
    """Return the closed custody machine whose ties each closed one has, and no other bunches than keys are led to."""
    need_book(book)
    given = start_rows(book, start)
    found = need_custody(book, custody)
    return machine_grown(CustodyGrowth(book, given, found, need_tellers(found, tellers)))
