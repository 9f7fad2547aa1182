"""Deeds: calls as houses and logs go on with them, once they are read."""

from underwraps.forms import first_word, is_number
from underwraps.nests import key_by, read_key, read_nest, thing_of

# What stands behind the word of a call.
CALLS = {
    "make": ("role",),
    "bring": ("role", "key"),
    "show": ("handle",),
    "copy": ("handle", "role"),
    "derive": ("handle", "label", "role"),
    "wrap": ("handle", "handle"),
    "unwrap": ("handle", "thing", "role"),
    "seal": ("handle", "thing"),
    "open": ("handle", "thing"),
}

# The words of the calls that make a handle; by all others a thing comes out.
MAKERS = ("make", "bring", "copy", "derive", "unwrap")


class Deed:
    """A call, read: its word, and its parts, what it hands over as a nest."""

    def __init__(self, word, parts):
        pairs = list(zip(CALLS[word], parts))
        handed = [part for kind, part in pairs if kind in ("key", "thing")]
        self.word = word
        self.parts = parts
        self.numbers = [part for kind, part in pairs if kind == "handle"]
        self.tail = tuple([part for kind, part in pairs if kind in ("role", "label")])
        self.nest = handed[0] if handed else None


def read_part(book, kind, part):
    """Return the part of a call that any object is, None if it is none of this kind."""
    if kind == "handle":
        return part if is_number(part) else None
    if kind == "role":
        return part if book.has_role(part) else None
    if kind == "label":
        return part if book.has_label(part) else None
    if kind == "thing":
        return read_nest(book, part)
    key = read_key(book, part)
    return None if key is None else (key,)


def read_call(book, thing):
    """Return the deed of the call that any object is, None if it is none of the book."""
    word = first_word(thing)
    shape = CALLS.get(word)
    if shape is None or len(thing) != len(shape) + 1:
        return None
    parts = [read_part(book, kind, part) for kind, part in zip(shape, thing[1:])]
    return None if None in parts else Deed(word, parts)


def call_of(deed):
    """Return the call of a deed."""
    parts = [
        thing_of(part) if kind in ("key", "thing") else part
        for kind, part in zip(CALLS[deed.word], deed.parts)
    ]
    return (deed.word,) + tuple(parts)


def permit_for(deed, roles):
    """Return the permit by which a deed is let whose handles have these roles."""
    return (deed.word,) + tuple(roles) + deed.tail


def handle_by(deed, keys, made):
    """Return the handle that a deed makes whose handles have these keys, when so many are made."""
    role = deed.tail[-1]
    if deed.word == "make":
        return ((("made", made), ()), role)
    if deed.word == "bring":
        return (deed.nest[0], role)
    if deed.word == "unwrap":
        return (deed.nest[1], role)
    if deed.word == "derive":
        return (key_by(keys[0], deed.tail[0]), role)
    return (keys[0], role)


def nest_by(deed, keys):
    """Return the nest that comes out by a deed whose handles have these keys."""
    if deed.word == "open":
        return deed.nest[1:]
    if deed.word == "seal":
        return (keys[0],) + deed.nest
    return tuple(keys)


def nest_fault(deed, keys):
    """Return why a deed cannot take what it hands over from under its key, None if it can, or need not."""
    if deed.word not in ("unwrap", "open"):
        return None
    if len(deed.nest) == 1 or deed.nest[0] != keys[0]:
        return "under"
    return "inner" if deed.word == "unwrap" and len(deed.nest) > 2 else None
