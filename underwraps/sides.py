"""Sides: two books with the same labels and given keys, and the least tables of their roots side by side."""

from underwraps.books import Book, need_book, roles_row
from underwraps.errors import BadSecond, BadStart
from underwraps.forms import is_list
from underwraps.growth import least_paths
from underwraps.leasttables import table_by
from underwraps.rowtables import Table
from underwraps.searches import first_word_to, reached_from
from underwraps.states import all_roots, is_root, root_states


def need_second(book, second):
    """Raise BadSecond for what is no Book with just the same labels."""
    if not isinstance(second, Book) or second.all_labels() != book.all_labels():
        raise BadSecond(second)


def need_both(book, second):
    """Raise the error of what are no two Books with the same labels."""
    need_book(book)
    need_second(book, second)


def both_rows(book, second, start):
    """Return the roles of each given key of a start of both books; raise BadStart for what is none."""
    if not is_list(start):
        raise BadStart(0)
    rows = [None if roles_row(second, row) is None else roles_row(book, row) for row in start]
    if None in rows:
        raise BadStart(rows.index(None))
    return tuple(rows)


def book_of_both(book, second):
    """Return the book of all roles and permits of both."""
    return Book(
        sorted(set(book.all_roles() + second.all_roles())),
        book.all_labels(),
        sorted(set(book.all_permits() + second.all_permits())),
    )


class Side:
    """One book of several: it tells of each root which words are out."""

    def __init__(self, book, given):
        self.book = book
        self.given = given
        self.paths = least_paths(book, given)

    def table_for(self, root):
        """Return the least table of a root; of one that the book does not make one row, that says False."""
        if is_root(self.book, self.given, root):
            return table_by(self.paths, root_states(self.given, root))
        return Table(self.paths.labels, [(False, tuple([0 for _ in self.paths.labels]))])


class Rows:
    """Rows of several tables of one root, gone along side by side."""

    def __init__(self, tables):
        self.tables = tables
        self.labels = tables[0].labels
        self.ahead = reached_from(tuple([0 for _ in tables]), self.labels, self.by_each)

    def by_each(self, rows, label):
        """Return the rows to which a label leads from some, table by table."""
        return tuple([table.by(row, label) for table, row in zip(self.tables, rows)])

    def outs(self, rows):
        """Return, table by table, whether a row of it says True."""
        return tuple([table.is_out(row) for table, row in zip(self.tables, rows)])

    def first_to(self, wanted):
        """Return the first word that is out just as one of some wanted outs says, None if none is."""
        for rows in self.ahead:
            if self.outs(rows) in wanted:
                return first_word_to(self.ahead, rows)
        return None


class Sides:
    """Two books, read, with the given keys of both, and all roots."""

    def __init__(self, book, second, start):
        need_both(book, second)
        self.given = both_rows(book, second, start)
        self.book = book_of_both(book, second)
        self.roots = all_roots(self.book, self.given)
        self.sides = [Side(book, self.given), Side(second, self.given)]

    def rows_of(self, root):
        """Return the rows of both books' tables of a root, side by side."""
        return Rows([side.table_for(root) for side in self.sides])


def first_asked(sides, roots, wanted):
    """Return the first asked key that comes out of some sides just as one of some wanted outs says, None if none."""
    least = None
    for root in roots:
        word = Rows([side.table_for(root) for side in sides]).first_to(wanted)
        if word is not None and (least is None or len(word) < len(least[1])):
            least = (root, word)
    return least
