"""Starts as text."""

from underwraps.booktexts import line_of
from underwraps.books import need_book, start_rows
from underwraps.refusals import BadStartText
from underwraps.scans import Scan


def start_text(book, start):
    """Return the text of a start."""
    need_book(book)
    return "".join([line_of(("given",) + row) for row in start_rows(book, start)])


def scan_given(scan, roles):
    """Take the line of a given key; return its roles."""
    row, left = [], roles
    scan.take("given")
    while scan.next_sign() == " " and left:
        scan.take(" ")
        row.append(scan.take_one(left))
        left = [role for role in roles if role > row[-1]]
    scan.take("\n")
    return row


def scan_start(book, text):
    """Return the scan of a text, as that of a start, and the start."""
    scan, rows = Scan(text), []
    while scan.next_sign() != "":
        rows.append(scan_given(scan, book.all_roles()))
    return (scan, rows)


def start_text_fault(book, text):
    """Return the place of the first wrong sign of any object as the text of a start, None for such a text."""
    need_book(book)
    if not isinstance(text, str):
        return (0, 0)
    scan, _ = scan_start(book, text)
    return scan.fault()


def read_start(book, text):
    """Return the start of which a string is the text."""
    fault = start_text_fault(book, text)
    if fault is not None:
        raise BadStartText(fault[0], fault[1])
    _, rows = scan_start(book, text)
    return rows
