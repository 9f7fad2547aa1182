"""Tellers: which custodians must tell that an asked key comes out, and which ones must be loyal that it does not."""

from itertools import combinations

from underwraps.books import need_book, start_rows
from underwraps.custodies import need_custody
from underwraps.custodygrowth import CustodyGrowth
from underwraps.leading import states_led
from underwraps.meetings import least_meetings
from underwraps.states import need_asked


def comes_out(book, given, custody, tellers, asked):
    """Tell whether an asked key comes out with some tellers."""
    growth = CustodyGrowth(book, given, custody, tellers)
    return "known" in states_led(growth.hulls(len(growth.grounds)), given, asked)


def least_ones(book, start, custody, asked):
    """Return, ascending, the lists of tellers with whom an asked key comes out, and with no lesser part does."""
    need_book(book)
    given = start_rows(book, start)
    found = need_custody(book, custody)
    goal = need_asked(book, given, asked)
    least = []
    for many in range(len(found.names) + 1):
        for some in combinations(found.names, many):
            # More tellers never bring less.
            if not any([all([name in some for name in other]) for other in least]):
                if comes_out(book, given, found, list(some), goal):
                    least.append(some)
    return sorted(least)


def least_tellers(book, start, custody, asked):
    """Return the ascending list of the least lists of tellers with whom an asked key comes out."""
    return [list(some) for some in least_ones(book, start, custody, asked)]


def least_loyal(book, start, custody, asked):
    """Return the ascending list of the least lists of custodians without whom an asked key never comes out."""
    return [list(some) for some in least_meetings(least_ones(book, start, custody, asked))]
