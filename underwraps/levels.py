"""Levels: how deep beneath what wraps it each state stands; or a bar, a walk that says there are none."""

from underwraps.books import need_book, read_permit, start_rows
from underwraps.forms import first_word, is_list, is_number
from underwraps.paths import by_first
from underwraps.states import is_state_dict, states_of

# How much lower the state is to which a step goes on over a permit.
FALLS = {"copy": 0, "derive": 0, "show": 0, "wrap": 1, "unwrap": 1, "seal": 1, "open": 1}


def step_on(why):
    """Return from where to where a step goes on over a permit, or a given key, and how much lower that is."""
    word = why[0]
    if word == "given":
        return (why[2], why[3], 0)
    if word == "bring":
        return ("known", why[1], 0)
    return (why[1], "known" if len(why) == 2 else why[-1], FALLS[word])


def way_of(why, way):
    """Return from where to where a step goes, and its fall."""
    begin, end, fall = step_on(why)
    return (begin, end, fall) if way == "on" else (end, begin, -fall)


def all_whys(book, given):
    """Return all that a step may go over: permits, and two roles of one given key."""
    likes = [
        ("given", at, role, other)
        for at, roles in enumerate(given)
        for role in roles
        for other in roles
        if role != other
    ]
    return [permit for permit in book.all_permits() if permit[0] != "make"] + likes


def agree(levels, ways):
    """Tell whether levels are as much lower as the steps on say."""
    return all([levels[begin] - levels[end] == fall for begin, end, fall in ways])


def is_levels(book, start, thing):
    """Tell whether any object is levels of a book and a start."""
    need_book(book)
    given = start_rows(book, start)
    if not is_state_dict(book, thing) or not all([is_number(level) for level in thing.values()]):
        return False
    return thing["known"] == 0 and agree(thing, [step_on(why) for why in all_whys(book, given)])


def levels_from(ways, state):
    """Return the levels of all states that steps join to one, by one step each, with 0 for this one."""
    later = by_first([(begin, (end, fall)) for begin, end, fall in ways])
    levels, todo = {state: 0}, [state]
    while todo:
        at = todo.pop()
        for end, fall in later.get(at, []):
            if end not in levels:
                levels[end] = levels[at] - fall
                todo.append(end)
    return levels


def least_levels(book, start):
    """Return the levels that are all the least ones, None if there are no levels."""
    need_book(book)
    given = start_rows(book, start)
    ways = [way_of(why, way) for why in all_whys(book, given) for way in ("on", "back")]
    found = levels_from(ways, "known")
    if min(list(found.values())) < 0:
        return None
    for state in states_of(book):
        if state not in found:
            joined = levels_from(ways, state)
            lowest = min(list(joined.values()))
            for other in joined:
                found[other] = joined[other] - lowest
    return {state: found[state] for state in states_of(book)} if agree(found, ways) else None


def read_why(book, given, thing):
    """Return what a step may go over that any object is, None if it is none."""
    if first_word(thing) == "given" and len(thing) == 4:
        _, at, role, other = thing
        if not is_number(at) or at >= len(given) or not isinstance(role, str) or not isinstance(other, str):
            return None
        return tuple(thing) if role in given[at] and other in given[at] and role != other else None
    permit = read_permit(book.all_roles(), book.all_labels(), thing)
    return permit if book.lets(permit) and permit[0] != "make" else None


def read_step(book, given, thing):
    """Return from where to where any object goes as a step, and its fall, None if it is no step."""
    if not is_list(thing) or len(thing) != 2:
        return None
    why = read_why(book, given, thing[0])
    if why is None or not isinstance(thing[1], str) or thing[1] not in ("on", "back"):
        return None
    return way_of(why, thing[1])


def bars(begin, end, fall):
    """Tell whether a walk from a state to a state with a fall is a bar."""
    return (begin == end and fall != 0) or (begin == "known" and fall > 0)


def is_bar(book, start, thing):
    """Tell whether any object is a bar of a book and a start."""
    need_book(book)
    given = start_rows(book, start)
    if not is_list(thing) or len(thing) == 0:
        return False
    ways = [read_step(book, given, step) for step in thing]
    if None in ways or not all([way[1] == later[0] for way, later in zip(ways, ways[1:])]):
        return False
    return bars(ways[0][0], ways[-1][1], sum([way[2] for way in ways]))


def walk_to(ahead, place):
    """Return the list of the steps that lead to a place of a search."""
    walk = []
    while ahead[place] is not None:
        place, step = ahead[place]
        walk.append(step)
    return walk[::-1]


def shortest_from(later, begin, many):
    """Return a bar from a state with the fewest steps, None if none has at most so many.

    A place of the search is where one stands, and the fall so far.
    """
    ahead = {(begin, 0): None}
    level = [(begin, 0)]
    for _ in range(many):
        further = []
        for place in level:
            for step, end, fall in later.get(place[0], []):
                to = (end, place[1] + fall)
                if to not in ahead:
                    ahead[to] = (place, step)
                    further.append(to)
                    if bars(begin, end, to[1]):
                        return walk_to(ahead, to)
        level = further
    return None


def shortest_bar(book, start):
    """Return a bar of the fewest steps, None if there is none."""
    need_book(book)
    given = start_rows(book, start)
    steps = [(why, way) for why in all_whys(book, given) for way in ("on", "back")]
    ways = [(step, way_of(step[0], step[1])) for step in steps]
    later = by_first([(begin, (step, end, fall)) for step, (begin, end, fall) in ways])
    states = states_of(book)
    # No bar that is the shortest one takes more steps than there are states.
    found = [shortest_from(later, state, len(states)) for state in states]
    found = [walk for walk in found if walk is not None]
    return min(found, key=len) if found else None
