"""Logs as text, by form: lists of calls, let or not."""

from underwraps.booktexts import line_of
from underwraps.books import need_book
from underwraps.deeds import CALLS, Deed, call_of, read_call
from underwraps.forms import is_list
from underwraps.refusals import BadCalls, BadLogText
from underwraps.scans import Scan
from underwraps.thingtexts import nest_text, scan_key, scan_nest


def part_text(kind, part):
    """Return how a part of a deed is written."""
    return nest_text(part) if kind in ("key", "thing") else str(part)


def deed_line(deed):
    """Return the line of a deed."""
    return line_of([deed.word] + [part_text(kind, part) for kind, part in zip(CALLS[deed.word], deed.parts)])


def log_text(book, log):
    """Return the text of a list of calls."""
    need_book(book)
    if not is_list(log):
        raise BadCalls(0)
    deeds = [read_call(book, call) for call in log]
    if None in deeds:
        raise BadCalls(deeds.index(None))
    return "".join([deed_line(deed) for deed in deeds])


def likely_words(book):
    """Return the words of the calls for which the book has all kinds of names that stand in them."""
    lacks = [kind for kind, names in (("role", book.all_roles()), ("label", book.all_labels())) if not names]
    return [word for word in CALLS if not any([kind in CALLS[word] for kind in lacks])]


def scan_part(scan, book, kind):
    """Take a part of a call; return it."""
    if kind == "role":
        return scan.take_one(book.all_roles())
    if kind == "label":
        return scan.take_one(book.all_labels())
    if kind == "thing":
        return scan_nest(scan, book.all_labels())
    if kind == "key":
        return (scan_key(scan, book.all_labels()),)
    figures = scan.take_number()
    return None if scan.stuck else int(figures)


def scan_call(scan, book, words):
    """Take the line of a call; return the call, None if there is none."""
    word, parts = scan.take_one(words), []
    for kind in CALLS.get(word, ()):
        scan.take(" ")
        parts.append(scan_part(scan, book, kind))
    scan.take("\n")
    return None if scan.stuck else call_of(Deed(word, parts))


def scan_log(book, text):
    """Return the scan of a text, as that of a list of calls, and the calls."""
    scan, calls, words = Scan(text), [], likely_words(book)
    while scan.next_sign() != "":
        calls.append(scan_call(scan, book, words))
    return (scan, calls)


def log_text_fault(book, text):
    """Return the place of the first wrong sign of any object as the text of a list of calls, None for such a text."""
    need_book(book)
    if not isinstance(text, str):
        return (0, 0)
    scan, _ = scan_log(book, text)
    return scan.fault()


def read_log(book, text):
    """Return the list of calls of which a string is the text."""
    fault = log_text_fault(book, text)
    if fault is not None:
        raise BadLogText(fault[0], fault[1])
    _, calls = scan_log(book, text)
    return calls
