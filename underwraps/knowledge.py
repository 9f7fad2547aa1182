"""What is known to whoever has some things, told thing by thing."""

from underwraps.nests import ascending, is_key_behind


class Known:
    """The nests that somebody had, or came to by opening, and what they let be known."""

    def __init__(self):
        # Each nest that was had or opened, as they came: the nest in which it lay, None if it was had.
        self.seen = {}
        # By base: the words of known keys, as they came.
        self.roots = {}
        # By base: the nests whose outermost key has this base, and is not known.
        self.shut = {}

    def take(self, nest):
        """Know one nest more, and all that it lets be opened."""
        todo = [(nest, None)]
        while todo:
            found, around = todo.pop()
            if found not in self.seen:
                self.seen[found] = around
                todo.extend([(whole[1:], whole) for whole in self.opened_by(found)])

    def opened_by(self, nest):
        """Return the nests that may be opened now that this one is there."""
        if len(nest) == 1:
            return self.unlocked_by(nest[0])
        if self.has_key(nest[0]):
            return [nest]
        self.shut.setdefault(nest[0][0], []).append(nest)
        return []

    def unlocked_by(self, key):
        """Know one key more; return the nests that were shut for it, and are no longer."""
        if self.has_key(key):
            return []
        base, word = key
        self.roots.setdefault(base, []).append(word)
        shut = self.shut.get(base, [])
        self.shut[base] = [nest for nest in shut if not self.has_key(nest[0])]
        return [nest for nest in shut if self.has_key(nest[0])]

    def root_of(self, key):
        """Return the known key that came first of a key and those it is behind, None if none is known."""
        base, word = key
        if base[0] == "own":
            return (base, ())
        for root in self.roots.get(base, []):
            if word[:len(root)] == root:
                return (base, root)
        return None

    def has_key(self, key):
        """Tell whether a key is known."""
        return self.root_of(key) is not None

    def has(self, nest):
        """Tell whether a nest is known."""
        for at, key in enumerate(nest[:-1]):
            # Nothing can be closed under a key that is not known: so it was had, or lay in something.
            if not self.has_key(key):
                return nest[at:] in self.seen
        return self.has_key(nest[-1])

    def least_keys(self):
        """Return the ascending list of the known keys, no own ones and behind no known one."""
        keys = [(base, word) for base in self.roots for word in self.roots[base]]
        return sorted([key for key in keys if not any([is_key_behind(key, other) for other in keys])])

    def shut_nests(self):
        """Return the nests that are known while their outermost keys are not, as things ascend."""
        return ascending([nest for base in self.shut for nest in self.shut[base]])

    def copy(self):
        """Return one that knows the same, and goes on by itself."""
        other = Known()
        other.seen = {nest: self.seen[nest] for nest in self.seen}
        other.roots = {base: list(self.roots[base]) for base in self.roots}
        other.shut = {base: list(self.shut[base]) for base in self.shut}
        return other


def known_by(nests):
    """Return what is known to whoever has these nests."""
    known = Known()
    for nest in nests:
        known.take(nest)
    return known
