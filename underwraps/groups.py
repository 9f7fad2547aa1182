"""Groups: which states one key of a root has at once, and tables that keep others apart."""

from underwraps.books import need_book, start_rows
from underwraps.bunches import all_bunches
from underwraps.errors import BadStates
from underwraps.forms import first_wrong, is_list
from underwraps.growth import Growth, least_paths, pairs_called
from underwraps.machines import facts_wanted
from underwraps.paths import Paths
from underwraps.states import all_roots, is_state, need_root, root_states
from underwraps.ties import read_tie


def has_all(group, states):
    """Tell whether a group has all of some states."""
    return all([state in group for state in states])


def greatest_groups(paths, firsts):
    """Return, ascending, the greatest groups of a key with these first states."""
    bunches = sorted(all_bunches(paths, firsts))
    return [
        bunch
        for bunch in bunches
        if not any([other != bunch and has_all(other, bunch) for other in bunches])
    ]


def groups(book, start, root):
    """Return the ascending list of the greatest groups that some key of a root has at once."""
    need_book(book)
    given = start_rows(book, start)
    need_root(book, given, root)
    return [list(group) for group in greatest_groups(least_paths(book, given), root_states(given, root))]


def read_group(book, thing):
    """Return the group that any object is, None if it is none."""
    if not is_list(thing) or not all([is_state(book, state) for state in thing]):
        return None
    return tuple(thing) if all([state < later for state, later in zip(thing, thing[1:])]) else None


def read_groups(book, thing):
    """Return the groups of a root that any object lists, None if it is no such list."""
    if not is_list(thing) or len(thing) == 0:
        return None
    found = [read_group(book, part) for part in thing]
    return found if first_wrong(found) is None else None


def read_group_table(book, given, thing):
    """Return the ties, ascending, and the groups of each root of any object, None if it is no group table."""
    if not is_list(thing) or len(thing) != 2 or not all([is_list(part) for part in thing]):
        return None
    ties = [read_tie(book, part) for part in thing[0]]
    table = [read_groups(book, part) for part in thing[1]]
    if first_wrong(ties) is not None or None in table or len(table) != len(all_roots(book, given)):
        return None
    return (sorted(ties), table)


def start_wrong(book, given, table):
    """Return the first root whose first states are in none of its groups, None if there is none."""
    for root, row in zip(all_roots(book, given), table):
        if not any([has_all(group, root_states(given, root)) for group in row]):
            return ("start", root)
    return None


def over_wrong(book, given, ties, table):
    """Return the first tie that leads out of a group, with its place, None if there is none."""
    for root, row in zip(all_roots(book, given), table):
        for index, group in enumerate(row):
            for tie in ties:
                if tie[0] in group and tie[1] not in group:
                    return ("over", root, index, tie)
    return None


def go_wrong(book, given, table):
    """Return the first label that leads from a group to what is in none, with its place, None if there is none."""
    paths = Paths(book, [])
    for root, row in zip(all_roots(book, given), table):
        for index, group in enumerate(row):
            for label in paths.labels:
                later = paths.by(group, label)
                if not any([has_all(other, later) for other in row]):
                    return ("go", root, index, label)
    return None


def lacks_wrong(book, given, ties, table):
    """Return the first tie that a closed machine with the groups' pairs has, and that is not there, None if none is."""
    every = [group for row in table for group in row]
    pairs = {("pair", state, other): True for group in every for state in group for other in group}
    lacks = [tie for tie in pairs_called("tie", facts_wanted(book, given, pairs)) if tie not in ties]
    return ("lacks", lacks[0]) if lacks else None


def first_group_fault(book, given, thing):
    """Return what is first wrong in any object as a group table, None if it is a right one."""
    found = read_group_table(book, given, thing)
    if found is None:
        return ("form", 0)
    ties, table = found
    wrong = [
        start_wrong(book, given, table),
        over_wrong(book, given, ties, table),
        go_wrong(book, given, table),
        lacks_wrong(book, given, ties, table),
    ]
    faults = [fault for fault in wrong if fault is not None]
    return faults[0] if faults else None


def group_fault(book, start, thing):
    """Return what is first wrong in any object as a group table, None if it is a right one."""
    need_book(book)
    return first_group_fault(book, start_rows(book, start), thing)


def group_table(book, start):
    """Return the right group table that has the least machine's ties, and the greatest groups of each root."""
    need_book(book)
    given = start_rows(book, start)
    growth = Growth(book, given, {})
    paths = growth.tied_paths()
    table = [
        [list(group) for group in greatest_groups(paths, root_states(given, root))]
        for root in all_roots(book, given)
    ]
    return (pairs_called("tie", growth.ranks), table)


def need_together(book, states):
    """Raise BadStates for what is no list of unlike states, or an empty one."""
    if not is_list(states) or len(states) == 0 or not all([is_state(book, state) for state in states]):
        raise BadStates(states)
    if len(set(states)) != len(states):
        raise BadStates(states)


def keeps_apart(book, start, root, states, thing):
    """Tell whether any object is a right group table in which no group of a root has all of some states."""
    need_book(book)
    given = start_rows(book, start)
    need_root(book, given, root)
    need_together(book, states)
    if first_group_fault(book, given, thing) is not None:
        return False
    row = read_groups(book, thing[1][all_roots(book, given).index(root)])
    return not any([has_all(group, states) for group in row])
