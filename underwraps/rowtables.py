"""Tables as this package goes on with them: rows, and where labels lead from them."""

from underwraps.errors import BadTable
from underwraps.forms import is_list, is_number
from underwraps.paths import all_reached, by_first
from underwraps.searches import first_word_to, reached_from


class Table:
    """Rows, pairs of whether a word that leads there is out, and of the index to which each label leads."""

    def __init__(self, labels, rows):
        self.labels = labels
        self.rows = rows
        self.places = {label: at for at, label in enumerate(labels)}

    def is_out(self, row):
        """Tell whether the row with an index says True."""
        return self.rows[row][0]

    def by(self, row, label):
        """Return the index to which a label leads from a row."""
        return self.rows[row][1][self.places[label]]

    def by_both(self, pair, label):
        """Return the pair of the indexes to which a label leads from two rows."""
        return (self.by(pair[0], label), self.by(pair[1], label))

    def led(self, word):
        """Return the index to which a word leads from the first row."""
        row = 0
        for label in word:
            row = self.by(row, label)
        return row

    def near_rows(self):
        """Return the indexes from which some word, or none, leads to a row that says True."""
        later = by_first([(step, row) for row, (_, steps) in enumerate(self.rows) for step in steps])
        return all_reached(later, [row for row in range(len(self.rows)) if self.is_out(row)])

    def roads_from(self, row):
        """Return the rows that words lead to from one, as a search tells them."""
        return reached_from(row, self.labels, self.by)

    def first_parting(self, row, mate):
        """Return the first word that leads from just one of two rows to one that says True, None if none does."""
        ahead = reached_from((row, mate), self.labels, self.by_both)
        for first, second in ahead:
            if self.is_out(first) != self.is_out(second):
                return first_word_to(ahead, (first, second))
        return None


def read_row(book, many, thing):
    """Return the row that any object is in a table of so many, None if it is none."""
    if not is_list(thing) or len(thing) != 2:
        return None
    out, steps = thing
    if not isinstance(out, bool) or not is_list(steps) or len(steps) != len(book.all_labels()):
        return None
    if not all([is_number(step) and step < many for step in steps]):
        return None
    return (out, tuple(steps))


def read_table(book, thing):
    """Return the table of the book that any object is, None if it is none."""
    if not is_list(thing) or len(thing) == 0:
        return None
    rows = [read_row(book, len(thing), row) for row in thing]
    return None if None in rows else Table(book.all_labels(), rows)


def need_table(book, table):
    """Return the table that is passed; raise BadTable for none of the book."""
    found = read_table(book, table)
    if found is None:
        raise BadTable(table)
    return found
