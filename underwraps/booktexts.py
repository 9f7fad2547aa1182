"""Books as text."""

from underwraps.books import PERMITS, Book, need_book
from underwraps.refusals import BadBookText
from underwraps.scans import LAST_NAME, Scan


def line_of(words):
    """Return the line of some words."""
    return " ".join(words) + "\n"


def book_text(book):
    """Return the text of a book."""
    need_book(book)
    rows = [["roles"] + book.all_roles(), ["labels"] + book.all_labels()] + book.all_permits()
    return "".join([line_of(row) for row in rows])


def scan_names(scan, word, barred):
    """Take a line of a word and ascending names, none of them a barred one; return the names."""
    names, above = [], ""
    scan.take(word)
    while scan.next_sign() == " " and above != LAST_NAME:
        scan.take(" ")
        above = scan.take_name(above, barred)
        names.append(above)
    scan.take("\n")
    return names


def may_stand(name, later, row, above):
    """Tell whether a name may stand next in a row that is to be above another one.

    later are the lists of the names that may stand behind it; above is None where the row may be any.
    """
    if above is None or row != above[:len(row)]:
        return True
    ahead, tail = above[len(row)], above[len(row) + 1:]
    if name == ahead:
        return tuple([names[-1] for names in later]) > tail
    return name > ahead


def scan_permit(scan, pools, above):
    """Take the line of a permit above another one; return the permit.

    pools are, by word, the lists of the names that may stand behind it.
    """
    row = (scan.take_one([word for word in sorted(pools) if may_stand(word, pools[word], (), above)]),)
    lists = pools.get(row[0], [])
    for at, names in enumerate(lists):
        scan.take(" ")
        row = row + (scan.take_one([name for name in names if may_stand(name, lists[at + 1:], row, above)]),)
    scan.take("\n")
    return row


def scan_permits(scan, roles, labels):
    """Take the lines of permits of roles and labels, ascending; return the permits."""
    pools = {word: [roles if kind == "role" else labels for kind in PERMITS[word]] for word in PERMITS}
    pools = {word: pools[word] for word in pools if [] not in pools[word]}
    permits = []
    while scan.next_sign() != "":
        permits.append(scan_permit(scan, pools, permits[-1] if permits else None))
    return permits


def scan_book(text):
    """Return the scan of a text, as that of a book, and the book's roles, labels and permits."""
    scan = Scan(text)
    roles = scan_names(scan, "roles", "known")
    labels = scan_names(scan, "labels", "")
    return (scan, (roles, labels, scan_permits(scan, roles, labels)))


def book_text_fault(text):
    """Return the place of the first wrong sign of any object as the text of a book, None for such a text."""
    if not isinstance(text, str):
        return (0, 0)
    scan, _ = scan_book(text)
    return scan.fault()


def read_book(text):
    """Return the book of which a string is the text."""
    fault = book_text_fault(text)
    if fault is not None:
        raise BadBookText(fault[0], fault[1])
    _, (roles, labels, permits) = scan_book(text)
    return Book(roles, labels, permits)
