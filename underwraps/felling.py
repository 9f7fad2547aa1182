"""Felling logs: by which an asked key is known if given keys are told behind them."""

from underwraps.beneaths import first_path, least_beneath
from underwraps.books import need_book, start_rows
from underwraps.forms import is_number
from underwraps.leaders import Leader, led_along, ties_along
from underwraps.paths import shortest_path
from underwraps.states import need_asked, root_states
from underwraps.toldkeys import need_lot


def links_to(under, role):
    """Return, the first one ahead, the links of keys wrapped one under another down to a role beneath a lot.

    A link is the source of a key, with a word and places by which it comes to where it wraps the next one.
    """
    links = []
    while isinstance(role, str):
        source, closer = under.whys[role]
        links.append((source, under.road(source[1], closer)))
        role = source[0]
    return links[::-1]


def source_key(leader, source):
    """Return a key of a source, and its spots where it lies and where it is led on from."""
    root, state = source
    if is_number(root):
        base, spots = leader.begin(root)
        return ((base, ()), (None, spots[state]))
    return leader.keeper(("pair", root, state))


def wrapped_log(given, grounds, links, found):
    """Return a log that wraps keys one under another, a key that an asked one is behind last of all, and its base."""
    asked, path = found
    leader = Leader(given, grounds)
    pairs = [("pair",) + source for source, _ in links if not is_number(source[0])]
    roads = [road for _, (_, road) in links] + [path]
    leader.make_ready(pairs + [tie for road in roads for tie in ties_along(road)])
    closer = None
    for source, (word, road) in links:
        key, (lying, spot) = source_key(leader, source)
        if closer is not None:
            leader.calls.append(("wrap", closer, lying))
        closer = leader.lead_on(key, spot, word, road)
    base, spots = leader.begin(asked[0])
    lying = leader.lead_on((base, ()), spots[path[0][1]], asked[1], path)
    leader.calls.append(("wrap", closer, lying))
    return (leader.calls, base)


def felling_log(book, start, lot, asked):
    """Return a log, and a key of an asked key that is known if a lot is told behind it; None if there are none."""
    need_book(book)
    given = start_rows(book, start)
    told = need_lot(given, lot)
    root, word = need_asked(book, given, asked)
    growth, under = least_beneath(book, given, told)
    path = shortest_path(under.paths, root_states(given, root), word, "known")
    if path is not None:
        log, keys = led_along(given, growth.grounds, [((root, word), path)])
        return (log, keys[0])
    if root in told:
        return ([], (("given", root), word))
    found = first_path(under.paths, given, (root, word), list(under.whys))
    if found is None:
        return None
    role = found[1][-1][1]
    log, base = wrapped_log(given, growth.grounds, links_to(under, role), found)
    return (log, (base, word))
