"""Things as text."""

from underwraps.books import need_book
from underwraps.nests import need_nest, thing_of
from underwraps.refusals import BadThingText
from underwraps.scans import Scan

# The words of bases, by the signs by which they are written.
BASE_WORDS = {"g": "given", "m": "made", "o": "own"}


def key_text(key):
    """Return how a key is written."""
    (word, number), labels = key
    return word[0] + str(number) + "".join(["." + label for label in labels])


def nest_text(nest):
    """Return how a thing is written, its nest being passed."""
    return "(".join([key_text(key) for key in nest]) + ")" * (len(nest) - 1)


def thing_text(book, thing):
    """Return the text of a thing."""
    need_book(book)
    return nest_text(need_nest(book, thing)) + "\n"


def scan_key(scan, labels):
    """Take a key; return it, None if there is none."""
    letter, word = scan.take_one(sorted(BASE_WORDS)), ()
    number = scan.take_number()
    while scan.next_sign() == "." and labels:
        scan.take(".")
        word = word + (scan.take_one(labels),)
    return None if scan.stuck else ((BASE_WORDS[letter], int(number)), word)


def scan_nest(scan, labels):
    """Take a thing; return its nest, None if there is none."""
    keys = [scan_key(scan, labels)]
    while scan.next_sign() == "(":
        scan.take("(")
        keys.append(scan_key(scan, labels))
    scan.take(")" * (len(keys) - 1))
    return None if scan.stuck else tuple(keys)


def scan_thing(book, text):
    """Return the scan of a text, as that of a thing, and the thing's nest."""
    scan = Scan(text)
    nest = scan_nest(scan, book.all_labels())
    scan.take("\n")
    return (scan, nest)


def thing_text_fault(book, text):
    """Return the place of the first wrong sign of any object as the text of a thing, None for such a text."""
    need_book(book)
    if not isinstance(text, str):
        return (0, 0)
    scan, _ = scan_thing(book, text)
    return scan.fault()


def read_thing(book, text):
    """Return the thing of which a string is the text."""
    fault = thing_text_fault(book, text)
    if fault is not None:
        raise BadThingText(fault[0], fault[1])
    _, nest = scan_thing(book, text)
    return thing_of(nest)
