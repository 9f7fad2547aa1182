"""Several houses under shared keys: one user, who knows what has come out of any of them."""

from underwraps.books import Book, start_fault, start_rows
from underwraps.deeds import read_call
from underwraps.forms import is_list, is_number
from underwraps.houses import House
from underwraps.nests import thing_of
from underwraps.refusals import BadBooks, BadStarts, NoHouse
from underwraps.users import User

# Behind a role there has to be room for the index of its house, one figure.
MOST_BOOKS = 10
MOST_SIGNS = 7


def is_house_book(thing):
    """Tell whether any object is a Book whose roles leave room for an index."""
    return isinstance(thing, Book) and all([len(role) <= MOST_SIGNS for role in thing.all_roles()])


def need_books(books):
    """Raise BadBooks for the first thing that is no book of several houses."""
    if not is_list(books) or len(books) == 0:
        raise BadBooks(0)
    for index, book in enumerate(books):
        if index == MOST_BOOKS or not is_house_book(book) or book.all_labels() != books[0].all_labels():
            raise BadBooks(index)


def need_starts(books, starts):
    """Return the roles of each given key, house by house; raise BadStarts for the first wrong thing."""
    if not is_list(starts):
        raise BadStarts(0)
    for index in range(max(len(books), len(starts))):
        if index >= len(books) or index >= len(starts):
            raise BadStarts(index)
        if start_fault(books[index], starts[index]) is not None or len(starts[index]) != len(starts[0]):
            raise BadStarts(index)
    return [start_rows(book, start) for book, start in zip(books, starts)]


def need_house(books, house):
    """Raise NoHouse for what is no index of a book."""
    if not is_number(house) or house >= len(books):
        raise NoHouse(house)


class Houses:
    """Houses of books and starts, that share given keys and a user."""

    def __init__(self, books, starts):
        need_books(books)
        rows = need_starts(books, starts)
        self._user = User()
        self._houses = [House(book, row).used_by(self._user) for book, row in zip(books, rows)]

    def call(self, house, call):
        """Do a call of a house; return the new handle's number, or the thing that comes out."""
        return self.house_at(house).call(call)

    def handles(self, house):
        """Return the list of the handles of a house."""
        return self.house_at(house).handles()

    def out(self):
        """Return the list of all things that have come out of any house, in order."""
        return [thing_of(nest) for nest in self._user.nests]

    def copy(self):
        """Return houses like these, that go on by themselves."""
        other = Houses([house.book() for house in self._houses], [house.start() for house in self._houses])
        other._user = self._user.copy()
        other._houses = [house.used_by(other._user) for house in self._houses]
        return other

    def house_at(self, house):
        """Return the House with an index; raise NoHouse for none."""
        need_house(self._houses, house)
        return self._houses[house]

    def __eq__(self, other):
        # They share a user each: so what is equal house by house is so as a whole.
        return isinstance(other, Houses) and self._houses == other._houses


class HousesPlay:
    """What is behind a row of calls of houses that were let."""

    def __init__(self, books, starts):
        self.houses = Houses(books, starts)
        self.many = len(books)
        # The houses, the deeds and what they told, in order.
        self.rows = []

    def do(self, thing):
        """Do what any object is as a pair of a house and a call; return why it is refused, None if it is let."""
        if not is_list(thing) or len(thing) != 2:
            return "pair"
        index, call = thing
        if not is_number(index) or index >= self.many:
            return "house"
        house = self.houses.house_at(index)
        deed = read_call(house.book(), call)
        why = "call" if deed is None else house.refusal(deed)
        if why is None:
            self.rows.append((index, deed, house.carry_out(deed)))
        return why


def play_houses(books, starts, thing):
    """Return the play of any object, as far as it is a log of houses, and its fault, None for one."""
    play = HousesPlay(books, starts)
    if not is_list(thing):
        return (play, (0, "list"))
    for index, pair in enumerate(thing):
        why = play.do(pair)
        if why is not None:
            return (play, (index, why))
    return (play, None)


def houses_fault(books, starts, thing):
    """Return where and why any object is no log of houses, None for one."""
    _, fault = play_houses(books, starts, thing)
    return fault
