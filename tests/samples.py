"""Books, starts and logs that come of a fixed count."""

from tests.tools import Dice
from underwraps.books import Book
from underwraps.errors import WrapError
from underwraps.houses import House


def all_permits(roles, labels):
    """Return every permit of roles and labels."""
    found = [(word, r) for word in ("make", "bring", "show", "seal", "open") for r in roles]
    found += [(word, r, s) for word in ("copy", "wrap", "unwrap") for r in roles for s in roles]
    found += [("derive", r, x, s) for r in roles for x in labels for s in roles]
    return found


def some_book(dice, roles, labels, share):
    """Return a book with about one of so many permits."""
    permits = [permit for permit in all_permits(roles, labels) if dice.number(share) == 0]
    return Book(roles, labels, permits)


def some_wraps(dice, roles, labels, share):
    """Return a book likewise, by which keys are led by keys alone: not copied, shown, brought."""
    every = [permit for permit in all_permits(roles, labels) if permit[0] not in ("copy", "show", "bring")]
    return Book(roles, labels, [permit for permit in every if dice.number(share) == 0])


def some_start(dice, roles, many):
    """Return a start of at most many given keys."""
    return [sorted(dice.part(roles)) for _ in range(dice.number(many + 1))]


def some_key(dice, labels):
    base = (dice.one(["given", "made", "own"]), dice.number(2))
    return (base, tuple(dice.some(labels, dice.number(3) if labels else 0)))


def some_thing(dice, labels, out):
    """Return a thing a user may hand over: one that came out, a key, one closed under a key."""
    kind = dice.number(6)
    if out and kind < 3:
        return dice.one(out)
    if kind < 5:
        return some_key(dice, labels)
    return ("under", some_key(dice, labels), some_thing(dice, labels, out))


def some_call(dice, book, house):
    """Return a call, let or not."""
    roles, labels = book.all_roles(), book.all_labels()
    word = dice.one(["make", "bring", "show", "copy", "wrap", "unwrap", "seal", "open"] + ["derive"] * bool(labels))
    number, other = [dice.number(len(house.handles()) + 1) for _ in range(2)]
    role, out = dice.one(roles), house.out()
    return {
        "make": lambda: (word, role),
        "bring": lambda: (word, role, dice.one([thing for thing in out if len(thing) == 2] + [some_key(dice, labels)])),
        "show": lambda: (word, number),
        "copy": lambda: (word, number, role),
        "derive": lambda: (word, number, dice.one(labels), role),
        "wrap": lambda: (word, number, other),
        "unwrap": lambda: (word, number, some_thing(dice, labels, out), role),
        "seal": lambda: (word, number, some_thing(dice, labels, out)),
        "open": lambda: (word, number, some_thing(dice, labels, out)),
    }[word]()


def some_log(dice, book, start, many):
    """Return a log of at most many calls."""
    house, log = House(book, start), []
    for _ in range(many * 12):
        if len(log) < many:
            call = some_call(dice, book, house)
            try:
                house.call(call)
                log.append(call)
            except WrapError:
                pass
    return log


def some_case(dice, many):
    """Return (book, start, log)."""
    roles = ["a", "b", "c"][:1 + dice.number(3)]
    labels = ["x", "y"][:dice.number(3)]
    book = some_book(dice, roles, labels, 2 + dice.number(2))
    start = some_start(dice, roles, 2)
    return book, start, some_log(dice, book, start, many)


def some_led(count, most):
    """Return (dice, book, start) of at most three roles and two labels, for odd counts such as some_wraps tells."""
    dice = Dice(count)
    roles, labels = ["a", "b", "c"][:dice.number(4)], ["x", "y"][:dice.number(3)]
    book = [some_book, some_wraps][count % 2](dice, roles, labels, 2 + dice.number(most))
    return dice, book, some_start(dice, roles, 2)


def some_small(count):
    """Return (dice, book, start) of at most three roles and two labels."""
    dice = Dice(count)
    roles, labels = ["a", "b", "c"][:dice.number(4)], ["x", "y"][:dice.number(3)]
    kind = dice.number(4)
    if kind > 1:
        # Words lead on, mostly from one role to one other, and one role alone may come out.
        roles, labels = ["a", "b", "c"], ["x", "y"][:1 + dice.number(2)]
        permits = {("derive", dice.one(roles), label, dice.one(roles)) for label in labels * 3} | {("show", "b"), ("make", "a")}
        return dice, Book(roles, labels, sorted(permits)), some_start(dice, roles, 2)
    return dice, [some_book, some_wraps][kind](dice, roles, labels, 2 + dice.number(3)), some_start(dice, roles, 2)
