"""The least table of a root: it tells of each word whether it is out."""

from underwraps.growth import least_paths
from underwraps.rowtables import Table
from underwraps.searches import reached_from
from underwraps.states import root_states

# What is known stays so by each label, whatever else the key has: so one bunch is enough for all that is out.
OUT = ("known",)


def merged(bunch):
    """Return a bunch, or the one that stands for all that are out."""
    return OUT if "known" in bunch else bunch


class Bunches:
    """The bunches to which words lead a key with some first states, all that are out being one."""

    def __init__(self, paths, states):
        self.paths = paths
        self.found = list(reached_from(merged(paths.over(states)), paths.labels, self.by))

    def by(self, bunch, label):
        """Return the bunch to which a label leads from one."""
        return merged(self.paths.by(bunch, label))

    def all_rows(self):
        """Return the rows of a table of the bunches, in the order of their first words."""
        places = {bunch: at for at, bunch in enumerate(self.found)}
        return [
            (bunch == OUT, tuple([places[self.by(bunch, label)] for label in self.paths.labels]))
            for bunch in self.found
        ]


def parted_rows(rows):
    """Return, row by row, a number that rows have in common if and only if no word parts them."""
    numbers = [1 if out else 0 for out, _ in rows]
    many = 0
    # One label more in each round: in the end no label parts what has one number.
    while len(set(numbers)) > many:
        many = len(set(numbers))
        marks = [
            (numbers[row], tuple([numbers[step] for step in steps]))
            for row, (_, steps) in enumerate(rows)
        ]
        places = {mark: at for at, mark in enumerate(sorted(set(marks)))}
        numbers = [places[mark] for mark in marks]
    return numbers


def rows_made_one(rows):
    """Return the rows without those that no word parts from one ahead, in their order."""
    numbers = parted_rows(rows)
    places = {}
    for number in numbers:
        places.setdefault(number, len(places))
    firsts = [numbers.index(number) for number in places]
    return [
        (rows[row][0], tuple([places[numbers[step]] for step in rows[row][1]]))
        for row in firsts
    ]


def table_by(paths, states):
    """Return the least table of a root with some first states, by the paths of the least machine."""
    return Table(paths.labels, rows_made_one(Bunches(paths, states).all_rows()))


def table_of(book, given, root):
    """Return the least table of a root of a book and given keys."""
    return table_by(least_paths(book, given), root_states(given, root))
