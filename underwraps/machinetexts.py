"""Machines as text."""

from underwraps.booktexts import line_of
from underwraps.books import need_book
from underwraps.machines import machine_of, need_facts
from underwraps.refusals import BadMachineText
from underwraps.scans import Scan
from underwraps.states import states_of


def in_order(facts):
    """Return the facts as lines stand in a text: ties ascending, then pairs ascending, each once."""
    ties, pairs = machine_of(facts)
    return [("tie",) + tie for tie in ties] + [("pair",) + pair for pair in pairs]


def machine_text(book, machine):
    """Return the text of a machine."""
    need_book(book)
    return "".join([line_of(fact) for fact in in_order(need_facts(book, machine))])


def all_facts(book):
    """Return all ties and all pairs that there may be."""
    states = states_of(book)
    pairs = [(first, second) for first in states for second in states]
    return [("tie",) + pair for pair in pairs if pair[0] != pair[1]] + [("pair",) + pair for pair in pairs]


def scan_machine(book, text):
    """Return the scan of a text, as that of a machine, and the facts of which its lines are."""
    scan, facts = Scan(text), []
    every = in_order(all_facts(book))
    lines = [line_of(fact) for fact in every]
    begun = 0
    while scan.next_sign() != "":
        line = scan.take_one(lines[begun:])
        if not scan.stuck:
            facts.append(every[lines.index(line)])
            begun = lines.index(line) + 1
    return (scan, facts)


def machine_text_fault(book, text):
    """Return the place of the first wrong sign of any object as the text of a machine, None for such a text."""
    need_book(book)
    if not isinstance(text, str):
        return (0, 0)
    scan, _ = scan_machine(book, text)
    return scan.fault()


def read_machine(book, text):
    """Return the machine of which a string is the text."""
    fault = machine_text_fault(book, text)
    if fault is not None:
        raise BadMachineText(fault[0], fault[1])
    _, facts = scan_machine(book, text)
    return machine_of(facts)
