"""Origins: of which roots the keys of a house are, and which asked keys they are keys of."""

from underwraps.forms import is_number


def first_roles(handles):
    """Return a dict from each base of the keys of handles to the role of its first one."""
    roles = {}
    for (base, _), role in handles:
        roles.setdefault(base, role)
    return roles


def asked_of(roles, key):
    """Return the asked key of which a key is one, its base's first handle having such a role."""
    base, word = key
    if base[0] == "given":
        return (base[1], word)
    # The first handle of a key that was made is the one by which it was made.
    return ("known" if base[0] == "own" else roles[base], word)


def bases_of(roles, root):
    """Return the bases of the keys of a root, no own ones, the first handles of bases having such roles."""
    if is_number(root):
        return [("given", root)]
    return [base for base in roles if base[0] == "made" and roles[base] == root]
