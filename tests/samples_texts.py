"""Books with names of all kinds, and strings that are nearly texts, that come of a fixed count."""

from tests.samples import all_permits, some_key
from tests.tools import Dice
from underwraps.books import Book

NAMES = [
    "a", "ab", "abc", "b", "b0", "k", "known0", "knowm", "know", "knownzz", "zzzzzzzz", "zzzzzzzy", "zzzzzzz", "abcdefgh", "azzzzzzz", "make", "open", "roles", "g0", "z9", "x", "y",
]
SIGNS = "abkmnorstwxyz019 \n.()GZ-"


def some_named(count):
    """Return (dice, book): at most four roles, three labels and twelve permits."""
    dice = Dice(count)
    roles = dice.mixed(NAMES)[:dice.number(5)]
    labels = dice.mixed(NAMES + ["known"])[:dice.number(4)]
    return dice, Book(roles, labels, dice.mixed(all_permits(roles, labels))[:dice.number(13)])


def some_number(dice):
    return dice.one([0, 1, 2, 7, 10, 19, 100, 123456789, 999999999, 90])


def some_wide_key(dice, labels):
    (word, _), labels = some_key(dice, labels)
    return ((word, some_number(dice)), labels)


def some_wide_thing(dice, labels):
    thing = some_wide_key(dice, labels)
    for _ in range(dice.number(4)):
        thing = ("under", some_wide_key(dice, labels), thing)
    return thing


def some_wide_call(dice, book):
    """Return a call by form, let or not, None for one that wants roles or labels where there are none."""
    roles, labels = book.all_roles(), book.all_labels()
    word = dice.one(["make", "bring", "show", "copy", "derive", "wrap", "unwrap", "seal", "open"])
    if (word in ("make", "bring", "copy", "derive", "unwrap") and not roles) or (word == "derive" and not labels):
        return None
    number, other = some_number(dice), some_number(dice)
    thing = some_wide_thing(dice, labels)
    return {
        "make": lambda: (word, dice.one(roles)), "bring": lambda: (word, dice.one(roles), some_wide_key(dice, labels)),
        "show": lambda: (word, number), "copy": lambda: (word, number, dice.one(roles)),
        "derive": lambda: (word, number, dice.one(labels), dice.one(roles)), "wrap": lambda: (word, number, other),
        "unwrap": lambda: (word, number, thing, dice.one(roles)), "seal": lambda: (word, number, thing), "open": lambda: (word, number, thing),
    }[word]()


def some_calls(dice, book, many):
    return [call for call in [some_wide_call(dice, book) for _ in range(many)] if call is not None]


def changed_texts(dice, text, many):
    """Return strings like a text: a sign put in, left out or another one, two lines exchanged, a line twice, the end left out."""
    found = [text[:-1], text + "\n", text + "a", " " + text, text.replace("\n", " ", 1), text.replace(" ", "  ", 1)]
    for _ in range(many):
        at = dice.number(len(text) + 1)
        sign, lines = dice.one(SIGNS), text.split("\n")
        row, other = dice.number(len(lines)), dice.number(len(lines))
        swapped = list(lines)
        swapped[row], swapped[other] = lines[other], lines[row]
        found.append(dice.one([
            text[:at] + sign + text[at:], text[:at] + text[at + 1:], text[:at] + sign + text[at + 1:], text[:at],
            "\n".join(swapped), "\n".join(lines[:row] + lines[row:row + 1] + lines[row:]), "\n".join(lines[:row] + lines[row + 1:]),
            text[:at] + text[at + 1:at + 2] + text[at:at + 1] + text[at + 2:],
        ]))
    return found
