"""Proofs that an asked key can come to a state: judged row by row and step by step, and told."""

from underwraps.books import need_book, start_rows
from underwraps.errors import BadIndex, BadRows
from underwraps.forms import first_word, is_list, is_number
from underwraps.growth import Growth, facts_under
from underwraps.paths import shortest_path
from underwraps.proofrows import facts_said, said_at
from underwraps.states import is_move, is_state, need_asked, need_state, root_states


def is_proof_form(thing):
    """Tell whether any object is a triple of a list, a string and a list."""
    if not is_list(thing) or len(thing) != 3:
        return False
    rows, first, steps = thing
    return is_list(rows) and isinstance(first, str) and is_list(steps)


def step_to(book, said, state, label, step):
    """Return where any object leads as a step from a state, None if it is no step there.

    label is the next one of the word, None if all are gone.
    """
    word = first_word(step)
    if word not in ("over", "go") or len(step) != 2:
        return None
    later = step[1]
    if word == "over":
        tie = said_at(said, "tie", later)
        return tie[1] if tie is not None and tie[0] == state else None
    if label is None or not is_state(book, later):
        return None
    return later if is_move(book, state, label, later) else None


def steps_fault(book, said, first, steps, word, goal):
    """Return what is first wrong in the steps of a proof, None if they go all of a word, and come to a state."""
    state = first
    gone = 0
    for index, step in enumerate(steps):
        label = word[gone] if gone < len(word) else None
        state = step_to(book, said, state, label, step)
        if state is None:
            return ("step", index)
        if step[0] == "go":
            gone += 1
    return None if gone == len(word) and state == goal else ("end", len(steps))


def proof_fault(book, start, asked, state, thing):
    """Return what is first wrong in any object as a proof that an asked key can come to a state, None for one."""
    need_book(book)
    given = start_rows(book, start)
    root, word = need_asked(book, given, asked)
    need_state(book, state)
    if not is_proof_form(thing):
        return ("form", 0)
    rows, first, steps = thing
    said = facts_said(book, given, rows)
    if len(said) < len(rows):
        return ("row", len(said))
    if first not in root_states(given, root):
        return ("first", 0)
    return steps_fault(book, said, first, steps, word, state)


def is_proof(book, start, asked, state, thing):
    """Tell whether any object is a proof that an asked key can come to a state."""
    return proof_fault(book, start, asked, state, thing) is None


def row_says(book, start, rows, index):
    """Return what the row with an index says: a pair or a tie."""
    need_book(book)
    given = start_rows(book, start)
    if not is_list(rows):
        raise BadRows(0)
    said = facts_said(book, given, rows)
    if len(said) < len(rows):
        raise BadRows(len(said))
    if not is_number(index) or index >= len(said):
        raise BadIndex(index)
    return said[index]


def row_of(ground, places):
    """Return the row of a ground, the rows of what it needs having these places."""
    return (ground.word,) + tuple([places[need] for need in ground.needs]) + ground.tail


def told_proof(book, start, asked, state):
    """Return a proof that an asked key can come to a state, None if there is none."""
    need_book(book)
    given = start_rows(book, start)
    root, word = need_asked(book, given, asked)
    need_state(book, state)
    growth = Growth(book, given, {})
    path = shortest_path(growth.tied_paths(), root_states(given, root), word, state)
    if path is None:
        return None
    # Where two places have as many labels gone a tie leads from one to the other.
    ties = [("tie", at[1], to[1]) if at[0] == to[0] else None for at, to in zip(path, path[1:])]
    facts = facts_under(growth.grounds, [tie for tie in ties if tie is not None])
    places = {fact: index for index, fact in enumerate(facts)}
    steps = [("go", to[1]) if tie is None else ("over", places[tie]) for tie, to in zip(ties, path[1:])]
    return ([row_of(growth.grounds[fact], places) for fact in facts], path[0][1], steps)
