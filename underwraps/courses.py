"""Courses: how a key comes to places, by moves, over ties, and by what custodians do with parts of it.

A place is a pair: how many labels of a word are gone, and the state.
"""


class Step:
    """How a key comes to a place: the places needed for it, and from which of these whom a part is handed."""

    def __init__(self, word, needs, parts):
        self.word = word
        self.needs = needs
        self.parts = parts


def handed_parts(custody, gone, states, names):
    """Return, custodian by custodian, the place of a key in some states from which each may get a part of it."""
    return [
        ((gone, [state for state in states if (state, name) in custody.parts][0]), name)
        for name in names
    ]


def step_over(hulls, gone, states):
    """Return a place that is not among some states, and the step over a tie that leads there, None if none does."""
    for state in states:
        for later in hulls.paths.overs.get(state, []):
            if later not in states:
                return ((gone, later), Step("over", [(gone, state)], []))
    return None


def step_by_parts(hulls, gone, states):
    """Return a place that is not among some states, and how custodians bring a key there, None if they do not."""
    brought = hulls.brought(states)
    if not brought:
        return None
    need, needs = hulls.custody.need, []
    if brought[0] == "known":
        names = hulls.telling(states)[:need]
    else:
        # Who tells holds what is known: no part is to be handed to him.
        free = hulls.tellers if "known" in states else []
        needs = [(gone, "known")] if free else []
        names = [name for name in hulls.holding(states) if name not in free][:max(need - len(free), 0)]
    parts = handed_parts(hulls.custody, gone, states, names)
    return ((gone, brought[0]), Step("parts", needs + [place for place, _ in parts], parts))


def spread(hulls, steps, gone):
    """Have all places that a key comes to without a label more; return their states."""
    states = [state for at, state in steps if at == gone]
    found = step_over(hulls, gone, states) or step_by_parts(hulls, gone, states)
    while found:
        place, step = found
        steps[place] = step
        states.append(place[1])
        found = step_over(hulls, gone, states) or step_by_parts(hulls, gone, states)
    return states


def course_of(hulls, firsts, word):
    """Return a dict from each place that a key with some first states comes to, to the step that leads there."""
    steps = {(0, state): Step("first", [], []) for state in firsts}
    states = spread(hulls, steps, 0)
    for gone, label in enumerate(word):
        for state in states:
            for later in hulls.paths.goes.get((state, label), []):
                steps.setdefault((gone + 1, later), Step("go", [(gone, state)], []))
        states = spread(hulls, steps, gone + 1)
    return steps
