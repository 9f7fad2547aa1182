"""Joining: several houses as one, their logs as logs of one book, and back."""

from underwraps.books import PERMITS, Book
from underwraps.deeds import CALLS, MAKERS, Deed, call_of
from underwraps.leaders import start_numbers
from underwraps.plays import need_play
from underwraps.refusals import BadHousesLog
from underwraps.several import need_books, need_starts, play_houses


def housed(role, house):
    """Return a role of a house as it is called in the book for all."""
    return role + str(house)


def housed_permit(permit, house):
    """Return a permit of a house as it is called in the book for all."""
    return permit[:1] + tuple([
        housed(name, house) if kind == "role" else name
        for kind, name in zip(PERMITS[permit[0]], permit[1:])
    ])


def joined_book(books):
    """Return the book for all."""
    return Book(
        [housed(role, house) for house, book in enumerate(books) for role in book.all_roles()],
        books[0].all_labels(),
        [housed_permit(permit, house) for house, book in enumerate(books) for permit in book.all_permits()],
    )


def joined_rows(rows):
    """Return the roles of each given key in the book for all, of those that it has house by house."""
    return [
        sorted([housed(role, house) for house, row in enumerate(rows) for role in row[at]])
        for at in range(len(rows[0]))
    ]


def joined(books, starts):
    """Return the book for all, and the start in which each given key has all its roles of all houses."""
    need_books(books)
    rows = need_starts(books, starts)
    return (joined_book(books), joined_rows(rows))


def joined_numbers(rows):
    """Return a dict from each house and number of a start's handle to its number in the house for all."""
    numbers = start_numbers(joined_rows(rows))
    return {
        (house, number): numbers[(at, housed(role, house))]
        for house, row in enumerate(rows)
        for (at, role), number in start_numbers(row).items()
    }


def joined_deed(deed, house, numbers):
    """Return a deed of a house as one of the house for all."""
    parts = []
    for kind, part in zip(CALLS[deed.word], deed.parts):
        if kind == "handle":
            part = numbers[(house, part)]
        parts.append(housed(part, house) if kind == "role" else part)
    return Deed(deed.word, parts)


def joined_log(books, starts, log):
    """Return the log of the house for all that has the same calls as a log of houses."""
    play, fault = play_houses(books, starts, log)
    if fault is not None:
        raise BadHousesLog(fault[0])
    numbers = joined_numbers(need_starts(books, starts))
    calls = []
    for house, deed, told in play.rows:
        calls.append(call_of(joined_deed(deed, house, numbers)))
        if deed.word in MAKERS:
            numbers[(house, told)] = len(numbers)
    return calls


def parted_deed(deed, places):
    """Return a deed of the house for all as one of its house."""
    parts = []
    for kind, part in zip(CALLS[deed.word], deed.parts):
        if kind == "handle":
            _, part = places[part]
        parts.append(part[:-1] if kind == "role" else part)
    return Deed(deed.word, parts)


def house_of(deed, places):
    """Return the house to which a deed of the house for all belongs: its handles', or its role's."""
    if deed.numbers:
        house, _ = places[deed.numbers[0]]
        return house
    return int(deed.tail[-1][-1])


def parted_log(books, starts, log):
    """Return the log of houses that has the same calls as a log of the house for all."""
    need_books(books)
    rows = need_starts(books, starts)
    play = need_play(joined_book(books), joined_rows(rows), log)
    places = {number: place for place, number in joined_numbers(rows).items()}
    counts = [len(start_numbers(row)) for row in rows]
    pairs = []
    for deed, told in zip(play.deeds, play.told):
        house = house_of(deed, places)
        pairs.append((house, call_of(parted_deed(deed, places))))
        if deed.word in MAKERS:
            places[told] = (house, counts[house])
            counts[house] += 1
    return pairs
