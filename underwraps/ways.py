"""Ways: how whoever has some things comes to another one, step by step."""

from underwraps.books import need_book
from underwraps.forms import first_word, is_list, is_number
from underwraps.knowledge import known_by
from underwraps.nests import key_by, need_nest, need_nests

# What stands behind the word of a step: a number, the index of a step ahead, a label.
STEPS = {
    "had": ("number",),
    "own": ("number",),
    "next": ("ahead", "label"),
    "open": ("ahead", "ahead"),
    "close": ("ahead", "ahead"),
}


def is_part(book, nests, kind, part):
    """Tell whether any object is what a step may have there."""
    if kind == "label":
        return book.has_label(part)
    return is_number(part) and (kind == "number" or part < len(nests))


def step_nest(book, had, nests, step):
    """Return the nest that any object has as a step behind those with nests, None if it is no step."""
    shape = STEPS.get(first_word(step))
    if shape is None or len(step) != len(shape) + 1:
        return None
    if not all([is_part(book, nests, kind, part) for kind, part in zip(shape, step[1:])]):
        return None
    if step[0] == "had":
        return had[step[1]] if step[1] < len(had) else None
    if step[0] == "own":
        return ((("own", step[1]), ()),)
    if len(nests[step[1]]) > 1:
        return None
    return nest_with(nests[step[1]][0], step, nests)


def nest_with(key, step, nests):
    """Return what a step makes with a key, None if it makes nothing."""
    if step[0] == "next":
        return (key_by(key, step[2]),)
    nest = nests[step[2]]
    if step[0] == "close":
        return (key,) + nest
    return nest[1:] if len(nest) > 1 and nest[0] == key else None


def way_fault(book, things, thing, way):
    """Return the index of the first thing that makes any object no way to a thing, None for a way."""
    need_book(book)
    had = need_nests(book, things)
    goal = need_nest(book, thing)
    if not is_list(way):
        return 0
    nests = []
    for index, step in enumerate(way):
        nest = step_nest(book, had, nests, step)
        if nest is None:
            return index
        nests.append(nest)
    return None if nests[-1:] == [goal] else len(nests)


def way_to(book, things, thing):
    """Return a way to a thing for whoever has these things, None if it is not known to them."""
    need_book(book)
    had = need_nests(book, things)
    goal = need_nest(book, thing)
    trail = Trail(had)
    if not trail.known.has(goal):
        return None
    trail.lead_to(goal)
    return trail.steps


class Trail:
    """Steps that are made as they are needed, no two of them for one nest."""

    def __init__(self, had):
        self.known = known_by(had)
        self.steps = []
        # The index of the step that has a nest.
        self.places = {}
        # The first index by which a nest was had.
        self.had = {}
        for index, nest in enumerate(had):
            self.had.setdefault(nest, index)

    def lead_to(self, goal):
        """Make the steps to a nest that is known, its own step last."""
        for nest in self.needed_for(goal):
            self.come_to(nest)
        at = self.core_of(goal)
        place = self.key_step(goal[at]) if at == len(goal) - 1 else self.places[goal[at:]]
        for shell in reversed(range(at)):
            place = self.step(goal[shell:], ("close", self.key_step(goal[shell]), place))

    def core_of(self, goal):
        """Return how many keys a nest that is known has to be closed under, by the user himself."""
        for at in range(len(goal) - 1):
            if goal[at:] in self.known.seen:
                return at
        return len(goal) - 1

    def needed_for(self, goal):
        """Return the nests to have or to open on the way, each behind what it is opened by."""
        at = self.core_of(goal)
        if at == len(goal) - 1:
            todo = self.roots_of(goal)
        else:
            todo = self.roots_of(goal[:at]) + [goal[at:]]
        needed = {}
        while todo:
            nest = todo.pop()
            if nest not in needed:
                needed[nest] = True
                todo.extend(self.needed_by(nest))
        return [nest for nest in self.known.seen if nest in needed]

    def needed_by(self, nest):
        """Return the nests that are needed to open the one in which a nest lies; none, if it was had."""
        if nest in self.had:
            return []
        whole = self.known.seen[nest]
        return [whole] + self.roots_of(whole[:1])

    def roots_of(self, keys):
        """Return the nests from which the steps to keys that are known go on, without own ones."""
        # The root that came first was there before whatever the key opens: so no way runs in a ring.
        roots = [self.known.root_of(key) for key in keys]
        return [(root,) for root in roots if root[0][0] != "own"]

    def come_to(self, nest):
        """Make the step that has a nest, those that it needs being made."""
        if nest in self.had:
            self.step(nest, ("had", self.had[nest]))
        elif nest not in self.places:
            whole = self.known.seen[nest]
            self.step(nest, ("open", self.key_step(whole[0]), self.places[whole]))

    def key_step(self, key):
        """Return the index of the step that has a key that is known."""
        at = self.known.root_of(key)
        if at[0][0] == "own":
            self.step((at,), ("own", at[0][1]))
        place = self.places[(at,)]
        for label in key[1][len(at[1]):]:
            at = key_by(at, label)
            place = self.step((at,), ("next", place, label))
        return place

    def step(self, nest, step):
        """Return the index of the step that has a nest; make it, if there is none."""
        if nest not in self.places:
            self.places[nest] = len(self.steps)
            self.steps.append(step)
        return self.places[nest]
