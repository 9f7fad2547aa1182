"""Growth: facts, and all that they want, round by round."""

from underwraps.leading import states_led
from underwraps.paths import Paths, all_reached
from underwraps.rules import Rules
from underwraps.states import is_root


class Growth:
    """All that each closed machine has that has some facts."""

    def __init__(self, book, given, facts):
        self.book = book
        self.rules = Rules(book, given)
        # Both by fact, as they came: the round in which it came, 0 if it was there; why it came then.
        self.ranks = {fact: 0 for fact in facts}
        self.grounds = {}
        rank, made = 0, self.rules.wanted(facts)
        while made:
            rank += 1
            fresh = self.take(made, rank)
            made = [ground for fact in fresh for ground in self.rules.made_of(fact, self.ranks)]

    def take(self, made, rank):
        """Have all that is made now; return the facts that were not there."""
        fresh = []
        for ground in made:
            if ground.says not in self.ranks:
                self.ranks[ground.says] = rank
                self.grounds[ground.says] = ground
                fresh.append(ground.says)
        return fresh

    def tied_paths(self):
        """Return the paths of all moves, and of the ties that are there."""
        return Paths(self.book, pairs_called("tie", self.ranks))


def pairs_called(word, facts):
    """Return the ascending list of the pairs of states of the facts that begin with a word, each once."""
    return sorted(set([fact[1:] for fact in facts if fact[0] == word]))


def facts_under(grounds, goals):
    """Return the facts of which some come, these with them, each behind those of which it is made."""
    needed = all_reached({fact: grounds[fact].needs for fact in grounds}, goals)
    return [fact for fact in grounds if fact in needed]


def least_paths(book, given):
    """Return the paths of all moves, and of the least machine's ties."""
    return Growth(book, given, {}).tied_paths()


def states_reached(book, given, asked):
    """Return, ascending, the states to which an asked key can be brought."""
    return states_led(least_paths(book, given), given, asked)


def any_out(book, given, asked_keys):
    """Tell whether one of some asked keys comes out; one of a role that cannot be made does not."""
    paths = least_paths(book, given)
    there = [asked for asked in asked_keys if is_root(book, given, asked[0])]
    return any(["known" in states_led(paths, given, asked) for asked in there])
