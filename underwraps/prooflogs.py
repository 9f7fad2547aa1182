"""Logs of proofs: what a proof says can come, done call by call."""

from underwraps.books import need_book, start_rows
from underwraps.errors import BadProof
from underwraps.growth import Growth
from underwraps.leaders import led_along
from underwraps.logs import thinned_log
from underwraps.paths import shortest_path
from underwraps.proofrows import facts_said, grounds_said
from underwraps.proofs import proof_fault
from underwraps.states import need_asked, root_states


def path_of(said, first, steps):
    """Return the places to which the steps of a proof lead from its first state."""
    path = [(0, first)]
    for word, where in steps:
        gone, _ = path[-1]
        path.append((gone, said[where][2]) if word == "over" else (gone + 1, where))
    return path


def log_of_proof(book, start, asked, state, proof):
    """Return a log that does what a proof says can come, and the key that is in the state then."""
    if proof_fault(book, start, asked, state, proof) is not None:
        raise BadProof(proof)
    given = start_rows(book, start)
    rows, first, steps = proof
    said = facts_said(book, given, rows)
    found = (need_asked(book, given, asked), path_of(said, first, steps))
    log, keys = led_along(given, grounds_said(said, rows), [found])
    return (log, keys[0])


def telling_log(book, start, asked):
    """Return a log no part of which tells what it tells of an asked key, and the key; None if none tells it."""
    need_book(book)
    given = start_rows(book, start)
    found = need_asked(book, given, asked)
    growth = Growth(book, given, {})
    path = shortest_path(growth.tied_paths(), root_states(given, found[0]), found[1], "known")
    if path is None:
        return None
    log, keys = led_along(given, growth.grounds, [(found, path)])
    return thinned_log(book, given, log, keys[0])
