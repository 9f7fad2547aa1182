"""Shut houses: what is known if keys are told when no call can be made any more."""

from underwraps.beneaths import Beneath, is_sheltered, least_beneath
from underwraps.books import need_book, roles_row, start_rows
from underwraps.forms import is_list
from underwraps.growth import pairs_called
from underwraps.machines import facts_of, first_lack, machine_of
from underwraps.nests import need_nest
from underwraps.plays import need_play
from underwraps.states import need_asked
from underwraps.toldkeys import need_lot


def house_told(book, start, log, lot):
    """Return the house behind a log, whose user is told the keys of a lot then."""
    house = need_play(book, start, log).house
    for at in need_lot(house.start(), lot):
        house.be_told((("given", at), ()))
    return house


def known_shut(book, start, log, lot, thing):
    """Tell whether a thing is known by what came out by a log, and the keys of a lot."""
    house = house_told(book, start, log, lot)
    return house.is_known(need_nest(book, thing))


def fallen_handles(book, start, log, lot):
    """Return the ascending list of the numbers of the handles whose keys are known then."""
    house = house_told(book, start, log, lot)
    return [number for number, (key, _) in enumerate(house.handles()) if house.is_known((key,))]


def falls_shut(book, start, lot, asked):
    """Tell whether by some log, and the keys of a lot told behind it, an asked key is known."""
    need_book(book)
    given = start_rows(book, start)
    found = need_lot(given, lot)
    goal = need_asked(book, given, asked)
    _, under = least_beneath(book, given, found)
    return not is_sheltered(under.paths, given, found, list(under.whys), goal)


def beneath(book, start, lot):
    """Return the ascending list of the roles beneath a lot."""
    need_book(book)
    given = start_rows(book, start)
    _, under = least_beneath(book, given, need_lot(given, lot))
    return sorted(under.whys)


def is_shelter(book, start, lot, asked, thing):
    """Tell whether any object is a closed machine and roles that keep an asked key if a lot is told when it is shut."""
    need_book(book)
    given = start_rows(book, start)
    found = need_lot(given, lot)
    goal = need_asked(book, given, asked)
    if not is_list(thing) or len(thing) != 2:
        return False
    facts, roles = facts_of(book, thing[0]), roles_row(book, thing[1])
    if facts is None or roles is None or first_lack(book, given, facts) is not None:
        return False
    under = Beneath(book, given, found, pairs_called("tie", facts), pairs_called("pair", facts))
    return under.is_enough(roles) and is_sheltered(under.paths, given, found, roles, goal)


def shelter(book, start, lot, asked):
    """Return the least machine and the roles beneath a lot, None if they do not keep an asked key."""
    need_book(book)
    given = start_rows(book, start)
    found = need_lot(given, lot)
    goal = need_asked(book, given, asked)
    growth, under = least_beneath(book, given, found)
    if not is_sheltered(under.paths, given, found, list(under.whys), goal):
        return None
    return (machine_of(growth.ranks), sorted(under.whys))
