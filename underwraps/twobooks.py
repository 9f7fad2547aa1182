"""Two books: which asked keys one lets out and the other does not, and how to show it."""

from underwraps.errors import BadRoot
from underwraps.forms import is_list, is_number
from underwraps.machines import is_closed, least_machine
from underwraps.sides import Side, Sides, book_of_both, first_asked, need_both
from underwraps.states import is_root, read_asked
from underwraps.verdicts import brings, keeps_from, verdict

MORE = (True, False)
LESS = (False, True)


def first_more(book, second, start):
    """Return the first asked key that the book lets and the second one does not, None if there is none."""
    both = Sides(book, second, start)
    return first_asked(both.sides, both.roots, (MORE,))


def parting_key(book, second, start):
    """Return the first asked key that just one of both books lets, None if there is none."""
    both = Sides(book, second, start)
    return first_asked(both.sides, both.roots, (MORE, LESS))


def compared(book, second, start):
    """Return "alike", "less", "more" or "apart": what the book lets, beside what the second one does."""
    both = Sides(book, second, start)
    more = first_asked(both.sides, both.roots, (MORE,)) is not None
    less = first_asked(both.sides, both.roots, (LESS,)) is not None
    if more:
        return "apart" if less else "more"
    return "less" if less else "alike"


def paired_rows(book, second, start, root):
    """Return the ascending list of the pairs of rows to which words lead in both books' least tables of a root."""
    both = Sides(book, second, start)
    if not is_root(both.book, both.given, root):
        raise BadRoot(root)
    return sorted(list(both.rows_of(root).ahead))


def read_rows(rows, thing):
    """Return a dict of True by the pairs of indexes of rows that any object lists, None if it is no such list."""
    if not is_list(thing) or not all([is_list(pair) and len(pair) == 2 for pair in thing]):
        return None
    sizes = [len(table.rows) for table in rows.tables]
    for pair in thing:
        if not all([is_number(row) and row < size for row, size in zip(pair, sizes)]):
            return None
    return {tuple(pair): True for pair in thing}


def is_covering(rows, thing):
    """Tell whether any object lists pairs of rows, the first ones among them, that words lead to no others from."""
    pairs = read_rows(rows, thing)
    if pairs is None or (0, 0) not in pairs or any([rows.outs(pair) == MORE for pair in pairs]):
        return False
    return all([rows.by_each(pair, label) in pairs for pair in pairs for label in rows.labels])


def is_cover(book, second, start, thing):
    """Tell whether any object lists, root by root, pairs of rows that show that the second book lets no less."""
    both = Sides(book, second, start)
    if not is_list(thing) or len(thing) != len(both.roots):
        return False
    return all([is_covering(both.rows_of(root), part) for root, part in zip(both.roots, thing)])


def is_parting(book, second, start, thing):
    """Tell whether any object is an asked key, a log of the book that tells it, and what keeps it in the second."""
    both = Sides(book, second, start)
    if not is_list(thing) or len(thing) != 3:
        return False
    asked = read_asked(both.book, both.given, thing[0])
    if asked is None or not brings(book, both.given, asked, "known", thing[1]):
        return False
    if is_root(second, both.given, asked[0]):
        return keeps_from(second, both.given, asked, "known", thing[2])
    return is_closed(second, both.given, thing[2])


def parting(book, second, start):
    """Return the first asked key that only the book lets, a log, and a closed machine of the second one, or None."""
    asked = first_more(book, second, start)
    if asked is None:
        return None
    _, log = verdict(book, start, asked, "known")
    return (asked, log, least_machine(second, start))


def both_books(book, second):
    """Return the Book of all roles and permits of both."""
    need_both(book, second)
    return book_of_both(book, second)


def only_together(book, second, start):
    """Return the first asked key that both books together let, and neither of them does, None if there is none."""
    both = Sides(book, second, start)
    together = Side(both.book, both.given)
    return first_asked([together] + both.sides, both.roots, ((True, False, False),))
