"""Settling: one log and one machine for all questions, where an asked key can be brought at all."""

from underwraps.books import need_book, start_rows
from underwraps.errors import BadQuestions
from underwraps.forms import is_list
from underwraps.growth import Growth, states_reached
from underwraps.leaders import led_along
from underwraps.machines import machine_of
from underwraps.paths import shortest_path
from underwraps.states import is_state, need_asked, read_asked, root_states


def read_question(book, given, thing):
    """Return the question, an asked key and a state, that any object is, None if it is none."""
    if not is_list(thing) or len(thing) != 2:
        return None
    asked = read_asked(book, given, thing[0])
    return None if asked is None or not is_state(book, thing[1]) else (asked, thing[1])


def need_questions(book, given, questions):
    """Return the questions that are passed; raise BadQuestions for the first thing that is none."""
    if not is_list(questions):
        raise BadQuestions(0)
    found = [read_question(book, given, thing) for thing in questions]
    if None in found:
        raise BadQuestions(found.index(None))
    return found


def settled(book, start, questions):
    """Return a log that brings each question's asked key to its state, if any does, and the least machine."""
    need_book(book)
    given = start_rows(book, start)
    asked_states = need_questions(book, given, questions)
    growth = Growth(book, given, {})
    paths = growth.tied_paths()
    found = [
        (asked, shortest_path(paths, root_states(given, asked[0]), asked[1], state))
        for asked, state in asked_states
    ]
    log, _ = led_along(given, growth.grounds, [(asked, path) for asked, path in found if path is not None])
    return (log, machine_of(growth.ranks))


def reach(book, start, asked):
    """Return the ascending list of the states to which an asked key can be brought."""
    need_book(book)
    given = start_rows(book, start)
    return list(states_reached(book, given, need_asked(book, given, asked)))


def brought_along(book, start):
    """Return the ascending list of the roles to which the user's own keys can be brought."""
    need_book(book)
    given = start_rows(book, start)
    return [state for state in states_reached(book, given, ("known", ())) if state != "known"]
