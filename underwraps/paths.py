"""Paths: where moves and ties lead from states."""

from underwraps.states import moves_of


def by_first(pairs):
    """Return a dict from what stands first in pairs to the list of what stands second there."""
    found = {}
    for first, second in pairs:
        found.setdefault(first, []).append(second)
    return found


def all_reached(later, begun):
    """Return, ascending, what is reached from some things, these with them.

    later is a dict from a thing to what is reached from it at once.
    """
    found = {}
    todo = list(begun)
    while todo:
        thing = todo.pop()
        if thing not in found:
            found[thing] = True
            todo.extend(later.get(thing, []))
    return tuple(sorted(found))


class Paths:
    """The moves of a book, and ties, by where they begin."""

    def __init__(self, book, ties):
        self.labels = book.all_labels()
        self.goes = by_first([((state, label), later) for state, label, later in moves_of(book)])
        self.overs = by_first(ties)

    def over(self, states):
        """Return, ascending, the states to which ties lead from some, these with them."""
        return all_reached(self.overs, states)

    def moved(self, states, label):
        """Return the list of the states to which moves by a label lead from some."""
        return [later for state in states for later in self.goes.get((state, label), [])]

    def by(self, states, label):
        """Return, ascending, the states to which moves by a label, and ties, lead from some."""
        return self.over(self.moved(states, label))

    def moved_pairs(self, pair, label):
        """Return the pairs to which moves by one label lead both states of a pair."""
        return [
            (first, second)
            for first in self.goes.get((pair[0], label), [])
            for second in self.goes.get((pair[1], label), [])
        ]

    def pairs_after(self, pair):
        """Return the pairs to which moves by one label, or one tie, lead from a pair."""
        moved = [later for label in self.labels for later in self.moved_pairs(pair, label)]
        firsts = [(first, pair[1]) for first in self.overs.get(pair[0], [])]
        return moved + firsts + [(pair[0], second) for second in self.overs.get(pair[1], [])]

    def steps_from(self, state):
        """Return the steps from a state: None over a tie, a label by a move, each with the state it leads to."""
        moved = [(label, later) for label in self.labels for later in self.goes.get((state, label), [])]
        return [(None, later) for later in self.overs.get(state, [])] + moved

    def after(self, place, word):
        """Return the places to which one move or one tie leads from a place.

        A place is a pair: how many labels of the word are gone, and the state.
        """
        gone, state = place
        further = [(gone, later) for later in self.overs.get(state, [])]
        if gone < len(word):
            further += [(gone + 1, later) for later in self.goes.get((state, word[gone]), [])]
        return further


def shortest_path(paths, firsts, word, state):
    """Return the fewest places from a first state to a state, all of the word gone; None if none lead there."""
    goal = (len(word), state)
    ahead = {(0, first): None for first in firsts}
    level = list(ahead)
    while level and goal not in ahead:
        further = []
        for place in level:
            for later in paths.after(place, word):
                if later not in ahead:
                    ahead[later] = place
                    further.append(later)
        level = further
    if goal not in ahead:
        return None
    path = [goal]
    while ahead[path[-1]] is not None:
        path.append(ahead[path[-1]])
    return path[::-1]
