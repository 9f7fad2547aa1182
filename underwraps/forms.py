"""Lists, numbers and names: the forms of which all that is passed is made."""

LETTERS = "abcdefghijklmnopqrstuvwxyz"
SIGNS = "abcdefghijklmnopqrstuvwxyz0123456789"


def is_list(thing):
    """Tell whether a thing is what may be passed as a list."""
    return isinstance(thing, (list, tuple))


def is_number(thing):
    """Tell whether a thing is a NUMBER."""
    return isinstance(thing, int) and not isinstance(thing, bool) and thing >= 0


def is_name(thing):
    """Tell whether a thing is a NAME."""
    if not isinstance(thing, str) or not 1 <= len(thing) <= 8:
        return False
    return thing[0] in LETTERS and all([sign in SIGNS for sign in thing])


def are_names(thing):
    """Tell whether a thing is a list of unlike NAMES."""
    if not is_list(thing) or not all([is_name(name) for name in thing]):
        return False
    return len(set(thing)) == len(thing)


def first_word(thing):
    """Return the string that begins a list, "" if none does."""
    if is_list(thing) and len(thing) > 0 and isinstance(thing[0], str):
        return thing[0]
    return ""


def first_wrong(rows):
    """Return the index of the first row that is None, or stood ahead, None if there is none."""
    seen = {}
    for index, row in enumerate(rows):
        if row is None or row in seen:
            return index
        seen[row] = True
    return None
