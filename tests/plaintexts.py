"""A slow plain reading of section 21 of the document, written beside the program, not of it.

Of each kind of text: whether a string is right, line by line; and endings, one of which makes right whatever
beginning can be gone on with.
"""

import re

from tests.samples import all_permits

KEY = r"[gmo](?:0|[1-9][0-9]{0,8})"
PERMITS = {
    "make": "r", "bring": "r", "show": "r", "seal": "r", "open": "r", "copy": "rr", "wrap": "rr", "unwrap": "rr", "derive": "rlr",
}
CALLS = {
    "make": "r", "bring": "rk", "show": "h", "copy": "hr", "derive": "hlr", "wrap": "hh", "unwrap": "htr", "seal": "ht", "open": "ht",
}


def place(text, at):
    """Return the line and the sign of an index."""
    ahead = text[:at]
    return (ahead.count("\n") + 1, at - ahead.rfind("\n"))


def plain_fault(text, is_right, endings):
    """Return the fault of a string: what it begins with can be gone on with, up to some sign."""
    if is_right(text):
        return None
    low, high = 0, len(text) + 1
    while high - low > 1:
        middle = (low + high) // 2
        begun = text[:middle]
        if any(is_right(begun + ending) for ending in endings(begun)):
            low = middle
        else:
            high = middle
    return place(text, low)


def lines_of(text):
    """Return the lines of a string, each a list of words, None if the last one is not ended."""
    lines = text.split("\n")
    return None if lines[-1] != "" else [line.split(" ") for line in lines[:-1]]


def rises(things):
    return all([thing < later for thing, later in zip(things, things[1:])])


def are_right_names(names):
    return all([re.fullmatch("[a-z][a-z0-9]{0,7}", name) for name in names]) and rises(names)


def is_book_text(text):
    lines = lines_of(text)
    if lines is None or len(lines) < 2 or lines[0][0] != "roles" or lines[1][0] != "labels":
        return False
    roles, labels = lines[0][1:], lines[1][1:]
    if not are_right_names(roles) or not are_right_names(labels) or "known" in roles:
        return False
    for line in lines[2:]:
        shape = PERMITS.get(line[0], "")
        if not shape or len(line) != len(shape) + 1:
            return False
        if not all([name in (roles if kind == "r" else labels) for kind, name in zip(shape, line[1:])]):
            return False
    return rises(lines[2:])


def ends_of(words):
    """Return all endings of some words."""
    return {word[at:] for word in words for at in range(len(word) + 1)}


def book_endings(begun):
    head = "roles\nlabels\n"
    endings = {"z" * many + head[at:] for many in range(9) for at in range(len(head) + 1)}
    lines = begun.split("\n")
    if len(lines) > 2:
        names = [line.split(" ")[1:] for line in lines[:2]]
        endings |= ends_of([" ".join(permit) + "\n" for permit in all_permits(*names)])
    return endings


def is_start_text(roles, text):
    lines = lines_of(text)
    return lines is not None and all([line[0] == "given" and all([role in roles for role in line[1:]]) and rises(line[1:]) for line in lines])


def start_endings(roles, begun):
    return ends_of(["given\n"] + [role + "\n" for role in roles])


def key_pattern(labels):
    return KEY + (r"(?:\.(?:" + "|".join(labels) + "))*" if labels else "")


def is_nest(labels, text):
    """Tell whether a string is how a thing is written."""
    keys = text.rstrip(")").split("(")
    return text.endswith(")" * (len(keys) - 1)) and len(text.rstrip(")")) + len(keys) - 1 == len(text) and all(
        [re.fullmatch(key_pattern(labels), key) for key in keys])


def is_thing_text(labels, text):
    return text.endswith("\n") and is_nest(labels, text[:-1])


def nest_endings(labels, begun):
    """Return endings by which what has begun may become a thing."""
    shut = ")" * max(begun.count("(") - begun.count(")"), 0)
    return {first + shut for first in ends_of(["g0"] + labels)}


def thing_endings(labels, begun):
    return {""} | {ending + "\n" for ending in nest_endings(labels, begun)}


def is_part(roles, labels, kind, word):
    if kind == "r":
        return word in roles
    if kind == "l":
        return word in labels
    if kind == "h":
        return re.fullmatch("0|[1-9][0-9]{0,8}", word) is not None
    if kind == "k":
        return re.fullmatch(key_pattern(labels), word) is not None
    return is_nest(labels, word)


def is_log_text(roles, labels, text):
    lines = lines_of(text)
    return lines is not None and all([
        line[0] in CALLS and len(line) == len(CALLS[line[0]]) + 1
        and all([is_part(roles, labels, kind, word) for kind, word in zip(CALLS[line[0]], line[1:])])
        for line in lines
    ])


def log_endings(roles, labels, begun):
    """Return endings of the word that has begun, with all that may stand behind it."""
    samples = {"r": roles[:1], "l": labels[:1], "h": ["0"], "k": ["g0"], "t": ["g0"]}
    behind = {""}
    for shape in CALLS.values():
        for at in range(len(shape)):
            if all([samples[kind] for kind in shape[at:]]):
                behind.add("".join([" " + samples[kind][0] for kind in shape[at:]]))
    word = begun.split("\n")[-1].split(" ")[-1]
    firsts = ends_of(list(CALLS) + roles + labels + ["0"]) | nest_endings(labels, word)
    return {""} | {first + rest + "\n" for first in firsts for rest in behind}


def machine_lines(states):
    pairs = [(p, q) for p in states for q in states]
    return [f"tie {p} {q}\n" for p, q in pairs if p != q] + [f"pair {p} {q}\n" for p, q in pairs]


def is_machine_text(states, text):
    if text and not text.endswith("\n"):
        return False
    places = {line: at for at, line in enumerate(machine_lines(states))}
    lines = text.splitlines(keepends=True)
    return all([line in places for line in lines]) and rises([places[line] for line in lines])


def machine_endings(states, begun):
    return ends_of(machine_lines(states))
