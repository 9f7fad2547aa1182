"""Machines: ties and pairs, what they want, and which of them are closed."""

from underwraps.books import need_book, start_rows
from underwraps.errors import BadMachine, BadSecond
from underwraps.forms import first_wrong, is_list
from underwraps.growth import Growth, pairs_called
from underwraps.rules import Rules
from underwraps.ties import read_pair, read_tie


def facts_of(book, thing):
    """Return a dict of True by the facts of the machine that any object is, None if it is none."""
    if not is_list(thing) or len(thing) != 2 or not all([is_list(part) for part in thing]):
        return None
    ties = [read_tie(book, part) for part in thing[0]]
    pairs = [read_pair(book, part) for part in thing[1]]
    if first_wrong(ties) is not None or first_wrong(pairs) is not None:
        return None
    facts = [("tie",) + tie for tie in ties] + [("pair",) + pair for pair in pairs]
    return {fact: True for fact in facts}


def need_facts(book, machine):
    """Return the facts of the machine that is passed; raise BadMachine for none."""
    facts = facts_of(book, machine)
    if facts is None:
        raise BadMachine(machine)
    return facts


def machine_of(facts):
    """Return the machine of facts, each of which may stand there more than once."""
    return (pairs_called("tie", facts), pairs_called("pair", facts))


def facts_wanted(book, given, facts):
    """Return the facts that a machine of facts wants, some perhaps more than once."""
    return [ground.says for ground in Rules(book, given).wanted(facts)]


def machine_wants(book, start, machine):
    """Return the machine of all that a machine wants, whether it has it or not."""
    need_book(book)
    given = start_rows(book, start)
    return machine_of(facts_wanted(book, given, need_facts(book, machine)))


def first_lack(book, given, facts):
    """Return the first fact that a machine of facts wants and has not, None if it is closed."""
    lacks = [fact for fact in facts_wanted(book, given, facts) if fact not in facts]
    # "pair" is ahead of "tie" among words, too.
    return min(lacks) if lacks else None


def machine_lack(book, start, machine):
    """Return the first thing that a machine wants and has not, None if it is closed."""
    need_book(book)
    given = start_rows(book, start)
    return first_lack(book, given, need_facts(book, machine))


def is_closed(book, start, thing):
    """Tell whether any object is a closed machine of a book and a start."""
    need_book(book)
    given = start_rows(book, start)
    facts = facts_of(book, thing)
    return facts is not None and first_lack(book, given, facts) is None


def least_machine(book, start):
    """Return the closed machine whose ties and pairs each closed one has."""
    need_book(book)
    return machine_of(Growth(book, start_rows(book, start), {}).ranks)


def grown(book, start, machine):
    """Return the closed machine with a machine's ties and pairs that each closed one with them has."""
    need_book(book)
    given = start_rows(book, start)
    return machine_of(Growth(book, given, need_facts(book, machine)).ranks)


def machines_met(book, machine, second):
    """Return the machine of the ties and pairs that both have."""
    need_book(book)
    facts = need_facts(book, machine)
    others = facts_of(book, second)
    if others is None:
        raise BadSecond(second)
    return machine_of([fact for fact in facts if fact in others])
