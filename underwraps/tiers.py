"""Tiers: parts of the states such that what is wrapped lies in the part beneath, and what these parts keep."""

from underwraps.books import need_book, start_rows
from underwraps.forms import is_list, is_number
from underwraps.states import is_state_dict


def is_tier(below, thing):
    """Tell whether any object is the number of a tier, below being so long."""
    return is_number(thing) and thing < len(below)


def is_tiering_form(book, thing):
    """Tell whether any object is a tiering of the book, fit or not."""
    if not is_list(thing) or len(thing) != 2:
        return False
    tiers, below = thing
    if not is_state_dict(book, tiers) or not is_list(below):
        return False
    return (
        all([is_tier(below, tier) for tier in tiers.values()])
        and all([tier is None or is_tier(below, tier) for tier in below])
    )


def like_states(permit):
    """Return both states that have to be of one tier for a permit, a pair; None if none have to."""
    word = permit[0]
    if word in ("copy", "derive"):
        return (permit[1], permit[-1])
    return (permit[1], "known") if word in ("bring", "show") else None


def beneath_states(permit):
    """Return a state, and one of the tier that has to lie beneath its own for a permit; None if none has to."""
    word = permit[0]
    if word in ("wrap", "unwrap"):
        return (permit[1], permit[2])
    return (permit[1], "known") if word in ("seal", "open") else None


def fits(tiers, below, permit):
    """Tell whether a permit fits a tiering."""
    like, beneath = like_states(permit), beneath_states(permit)
    if like is not None:
        return tiers[like[0]] == tiers[like[1]]
    return beneath is None or below[tiers[beneath[0]]] == tiers[beneath[1]]


def tiers_fault(book, start, thing):
    """Return what is first wrong in any object as a tiering that fits, None for one."""
    need_book(book)
    given = start_rows(book, start)
    if not is_tiering_form(book, thing):
        return ("form", 0)
    tiers, below = thing
    if tiers["known"] != 0 or below[0] != 0:
        return ("known", 0)
    for index, roles in enumerate(given):
        if len(set([tiers[role] for role in roles])) > 1:
            return ("given", index)
    for permit in book.all_permits():
        if not fits(tiers, below, permit):
            return ("permit", permit)
    return None


def is_tiering(book, start, thing):
    """Tell whether any object is a tiering that fits."""
    return tiers_fault(book, start, thing) is None


def joined_tiers(tiers, pairs):
    """Return tiers with those of both states of each pair made one."""
    for state, other in pairs:
        tiers = {place: tiers[state] if tiers[place] == tiers[other] else tiers[place] for place in tiers}
    return tiers


def forced_pairs(tiers, beneaths):
    """Return the pairs of states that have to be of one tier, as both lie beneath one, and are not."""
    return [
        (lower, other)
        for state, lower in beneaths
        for mate, other in beneaths
        if tiers[state] == tiers[mate] and tiers[lower] != tiers[other]
    ]


def finest_tiers(states, likes, beneaths):
    """Return a dict from states to what is the same for two of them only if they have to be of one tier."""
    tiers = joined_tiers({state: state for state in states}, likes)
    pairs = forced_pairs(tiers, beneaths)
    while pairs:
        tiers = joined_tiers(tiers, pairs)
        pairs = forced_pairs(tiers, beneaths)
    return tiers


def finest_tiering(book, start):
    """Return the tiering that fits and has two states in one tier only if each one that fits has."""
    need_book(book)
    given = start_rows(book, start)
    states, permits = ["known"] + book.all_roles(), book.all_permits()
    likes = [like_states(permit) for permit in permits if like_states(permit) is not None]
    likes += [pair for roles in given for pair in zip(roles, roles[1:])]
    beneaths = [beneath_states(permit) for permit in permits if beneath_states(permit) is not None]
    beneaths.append(("known", "known"))
    tiers = finest_tiers(states, likes, beneaths)
    numbers = {}
    for state in states:
        numbers.setdefault(tiers[state], len(numbers))
    below = [None for _ in numbers]
    for state, lower in beneaths:
        below[numbers[tiers[state]]] = numbers[tiers[lower]]
    return ({state: numbers[tiers[state]] for state in sorted(states)}, below)


def safe_roles(book, start):
    """Return the ascending list of the roles that the finest tiering puts in another tier than 0."""
    tiers, _ = finest_tiering(book, start)
    return [state for state in tiers if tiers[state] != 0]
