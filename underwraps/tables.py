"""Tables: which words are out, row by row, and how few rows are enough."""

from underwraps.books import need_book, start_rows
from underwraps.forms import is_list, is_number
from underwraps.leasttables import table_of
from underwraps.refusals import BadMate, BadRow, BadWord
from underwraps.rowtables import need_table, read_table
from underwraps.searches import first_word_to
from underwraps.states import need_root


def is_table(book, thing):
    """Tell whether any object is a table of the book."""
    need_book(book)
    return read_table(book, thing) is not None


def is_index(table, thing):
    """Tell whether any object is the index of a row of a table."""
    return is_number(thing) and thing < len(table.rows)


def table_row(book, table, word):
    """Return the index of the row to which a word leads."""
    need_book(book)
    found = need_table(book, table)
    if not is_list(word) or not all([book.has_label(label) for label in word]):
        raise BadWord(word)
    return found.led(word)


def least_table(book, start, root):
    """Return the table with the fewest rows that tells of each word whether it is out."""
    need_book(book)
    given = start_rows(book, start)
    need_root(book, given, root)
    return list(table_of(book, given, root).rows)


def road_to(book, table, row):
    """Return the first word that leads to a row, None if none does."""
    need_book(book)
    found = need_table(book, table)
    if not is_index(found, row):
        raise BadRow(row)
    ahead = found.roads_from(0)
    return first_word_to(ahead, row) if row in ahead else None


def parting_word(book, table, row, mate):
    """Return the first word that leads from just one of two rows to one that says True, None if none does."""
    need_book(book)
    found = need_table(book, table)
    if not is_index(found, row):
        raise BadRow(row)
    if not is_index(found, mate):
        raise BadMate(mate)
    return found.first_parting(row, mate)
