"""Which words are out: the first ones, how many, and what comes out behind an asked key."""

from underwraps.books import need_book, start_rows
from underwraps.forms import is_number
from underwraps.leasttables import table_of
from underwraps.refusals import BadMany, BadMate
from underwraps.rowtables import Table
from underwraps.searches import first_word_to
from underwraps.states import need_asked, need_root, read_asked


def need_many(many):
    """Raise BadMany for what is no number."""
    if not is_number(many):
        raise BadMany(many)


def root_table(book, start, root):
    """Return the least table of the root that is passed; raise the error of what is wrong."""
    need_book(book)
    given = start_rows(book, start)
    need_root(book, given, root)
    return table_of(book, given, root)


def first_words(book, start, root, many):
    """Return the list of the first words of at most many labels, as words ascend."""
    table = root_table(book, start, root)
    need_many(many)
    near = table.near_rows()
    words, level = [], [((), 0)]
    while level and len(level[0][0]) <= many:
        words += [word for word, row in level if table.is_out(row)]
        level = [
            (word + (label,), table.by(row, label))
            for word, row in level
            if row in near and not table.is_out(row)
            for label in table.labels
        ]
    return words


def further_counts(table, counts):
    """Return, by row, how many words lead there by one label more, of words that are not out."""
    later = {}
    for row in counts:
        if not table.is_out(row):
            for step in table.rows[row][1]:
                later[step] = later.get(step, 0) + counts[row]
    return later


def first_counts(table, many):
    """Return the list of how many first words have 0 labels, 1 label and so on, up to many."""
    counts, found = {0: 1}, []
    for _ in range(many + 1):
        found.append(sum([counts[row] for row in counts if table.is_out(row)]))
        counts = further_counts(table, counts)
    return found


def count_out(book, start, root, many):
    """Return how many words of just many labels are out."""
    table = root_table(book, start, root)
    need_many(many)
    count = 0
    for first in first_counts(table, many):
        count = count * len(table.labels) + first
    return count


def count_first(book, start, root, many):
    """Return how many first words have just many labels."""
    table = root_table(book, start, root)
    need_many(many)
    return first_counts(table, many)[-1]


def all_first(book, start, root):
    """Return how many first words there are, None if there is no end of them."""
    table = root_table(book, start, root)
    near = table.near_rows()
    counts, count = {0: 1}, 0
    for _ in table.rows:
        count += sum([counts[row] for row in counts if table.is_out(row)])
        counts = further_counts(table, counts)
        counts = {row: counts[row] for row in counts if row in near}
    # A word with as many labels as there are rows comes twice to one row: so may longer ones, without end.
    return None if counts else count


def asked_row(book, start, asked):
    """Return the least table of an asked key's root, and the row to which its word leads."""
    need_book(book)
    given = start_rows(book, start)
    root, word = need_asked(book, given, asked)
    table = table_of(book, given, root)
    return (table, table.led(word))


def kind_of(book, start, asked):
    """Return "out" if an asked key comes out, "near" if just some key behind it does, "safe" else."""
    table, row = asked_row(book, start, asked)
    if table.is_out(row):
        return "out"
    return "near" if row in table.near_rows() else "safe"


def shortest_out(book, start, asked):
    """Return the first word such that the key behind an asked key by it comes out, None if none does."""
    table, row = asked_row(book, start, asked)
    ahead = table.roads_from(row)
    for later in ahead:
        if table.is_out(later):
            return first_word_to(ahead, later)
    return None


def parted_behind(book, start, asked, mate):
    """Return the first word by which just one of two asked keys comes out, None if they are alike behind."""
    table, row = asked_row(book, start, asked)
    given = start_rows(book, start)
    other = read_asked(book, given, mate)
    if other is None:
        raise BadMate(mate)
    second = table_of(book, given, other[0])
    many = len(table.rows)
    shifted = [(out, tuple([many + step for step in steps])) for out, steps in second.rows]
    return Table(table.labels, table.rows + shifted).first_parting(row, many + second.led(other[1]))
