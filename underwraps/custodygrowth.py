"""Custody growth: the bunches and ties of the least machine with custodians, round by round."""

from underwraps.bunches import all_bunches
from underwraps.hulls import Hulls
from underwraps.rules import Rules
from underwraps.searches import first_word_to
from underwraps.states import all_roots, root_states


def pairs_in(bunch):
    """Return the pairs of the states of a bunch, like ones, too."""
    return [(first, second) for first in bunch for second in bunch]


def let_by(rules):
    """Return the grounds of the ties for which one permit is enough."""
    return [ground for ground in rules.begun if ground.says[0] == "tie"]


def led_by_pairs(rules, pairs):
    """Return the grounds of the ties over which keys that are in both states of some pairs lead others."""
    return [ground for pair in pairs for ground in rules.tied_by(("pair",) + pair)]


class CustodyGrowth:
    """All that each closed custody machine has."""

    def __init__(self, book, given, custody, tellers):
        self.book = book
        self.given = given
        self.custody = custody
        self.tellers = tellers
        self.rules = Rules(book, given)
        # By tie, as they came: why it is wanted.
        self.grounds = {}
        # By pair, as they came: an asked key that is led to both states, and how many ties are enough for it.
        self.keepers = {}
        self.bunches = []
        self.take(let_by(self.rules))
        self.meet()
        while self.take(led_by_pairs(self.rules, self.keepers)):
            self.meet()

    def take(self, made):
        """Have the ties of some grounds; tell whether one of them was not there."""
        many = len(self.grounds)
        for ground in made:
            self.grounds.setdefault(ground.says[1:], ground)
        return len(self.grounds) > many

    def hulls(self, many):
        """Return the hulls by the first of the ties, so many, as they came."""
        return Hulls(self.book, list(self.grounds)[:many], self.custody, self.tellers)

    def meet(self):
        """Have all bunches by the ties that are there, and a keeper for each pair in them."""
        many, found = len(self.grounds), {}
        hulls = self.hulls(many)
        for root in all_roots(self.book, self.given):
            ahead = all_bunches(hulls, root_states(self.given, root))
            for bunch in ahead:
                found[bunch] = True
                for pair in pairs_in(bunch):
                    if pair not in self.keepers:
                        self.keepers[pair] = ((root, first_word_to(ahead, bunch)), many)
        self.bunches = sorted(found)
