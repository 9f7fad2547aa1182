"""The rows of proofs, judged: what each says by the book, the start and the rows ahead of it."""

from underwraps.books import read_permit
from underwraps.forms import first_word, is_number
from underwraps.rules import Ground, let_tie
from underwraps.states import is_move, is_root, is_state, root_states

# What stands behind the word of a row; "pair" and "tie" are indexes of rows ahead that say one.
ROWS = {
    "start": ("root", "state", "state"),
    "moved": ("pair", "label", "state", "state"),
    "first": ("pair", "tie"),
    "second": ("pair", "tie"),
    "let": ("permit",),
    "led": ("pair", "state", "state"),
}


def said_at(said, word, index):
    """Return both states of the pair, or the tie, that the row with any index says, None if it says none."""
    if not is_number(index) or index >= len(said) or said[index][0] != word:
        return None
    return said[index][1:]


def read_row_part(book, given, said, kind, part):
    """Return what any object is as a part of this kind of a row, None if it is none."""
    if kind == "root":
        return part if is_root(book, given, part) else None
    if kind == "state":
        return part if is_state(book, part) else None
    if kind == "label":
        return part if book.has_label(part) else None
    if kind == "permit":
        permit = read_permit(book.all_roles(), book.all_labels(), part)
        return permit if book.lets(permit) else None
    return said_at(said, kind, part)


def led_fact(book, pair, state, later):
    """Return the tie that a led row says by a pair, None if a key in both states leads nothing so."""
    by, under = pair
    wrapped = book.lets(("wrap", under, state))
    unwrapped = book.lets(("unwrap", by, later))
    if later == "known":
        right = wrapped and (by == "known" or book.lets(("open", by)))
    elif state == "known":
        right = unwrapped and (under == "known" or book.lets(("seal", under)))
    else:
        right = wrapped and unwrapped
    return ("tie", state, later) if right and state != later else None


def moved_fact(book, pair, label, first, second):
    """Return the pair that a moved row says by a pair, None if the label does not lead there."""
    if is_move(book, pair[0], label, first) and is_move(book, pair[1], label, second):
        return ("pair", first, second)
    return None


def fact_by(book, given, word, parts):
    """Return what a row with this word and these parts says, None if it is not right."""
    if word == "start":
        root, first, second = parts
        firsts = root_states(given, root)
        return ("pair", first, second) if first in firsts and second in firsts else None
    if word == "let":
        tie = let_tie(parts[0])
        return None if tie is None else ("tie",) + tie
    if word == "led":
        return led_fact(book, *parts)
    if word == "moved":
        return moved_fact(book, *parts)
    (first, second), (state, later) = parts
    if word == "first":
        return ("pair", later, second) if state == first else None
    return ("pair", first, later) if state == second else None


def row_fact(book, given, said, row):
    """Return what any object says as a row behind those that said this much, None if it is no right row."""
    word = first_word(row)
    shape = ROWS.get(word)
    if shape is None or len(row) != len(shape) + 1:
        return None
    parts = [read_row_part(book, given, said, kind, part) for kind, part in zip(shape, row[1:])]
    return None if None in parts else fact_by(book, given, word, parts)


def facts_said(book, given, rows):
    """Return the list of what the rows say, as far as they are right."""
    said = []
    for row in rows:
        fact = row_fact(book, given, said, row)
        if fact is None:
            return said
        said.append(fact)
    return said


def grounds_said(said, rows):
    """Return a dict from each fact that right rows say to its ground, by the first row that says it."""
    grounds = {}
    for fact, row in zip(said, rows):
        if fact not in grounds:
            parts = list(zip(ROWS[row[0]], row[1:]))
            needs = tuple([said[part] for kind, part in parts if kind in ("pair", "tie")])
            tail = tuple([part for kind, part in parts if kind not in ("pair", "tie")])
            grounds[fact] = Ground(fact, row[0], needs, tail)
    return grounds
