"""Ranks: in which round each tie and each pair of the least machine comes."""

from underwraps.books import need_book, start_rows
from underwraps.forms import is_list, is_number
from underwraps.growth import Growth, pairs_called
from underwraps.leading import states_led
from underwraps.paths import Paths
from underwraps.rules import Rules
from underwraps.states import need_asked, need_state
from underwraps.ties import read_pair


def ranks_called(word, ranks):
    """Return the dict, ascending, from the pairs of states of facts that begin with a word to their ranks."""
    return {pair: ranks[(word,) + pair] for pair in pairs_called(word, ranks)}


def machine_ranks(book, start):
    """Return two dicts: the ranks of the ties, and of the pairs, of the least machine."""
    need_book(book)
    ranks = Growth(book, start_rows(book, start), {}).ranks
    return (ranks_called("tie", ranks), ranks_called("pair", ranks))


def is_rank_dict(book, thing):
    """Tell whether any object is a dict from pairs of states to numbers from 1 on."""
    if not isinstance(thing, dict) or not all([read_pair(book, pair) is not None for pair in thing]):
        return False
    return all([is_number(rank) and rank > 0 for rank in thing.values()])


def read_ranks(book, thing):
    """Return the ranks, by fact, that any pair of dicts tells, None for anything else."""
    if not is_list(thing) or len(thing) != 2 or not all([is_rank_dict(book, part) for part in thing]):
        return None
    ranks = {("tie",) + pair: thing[0][pair] for pair in thing[0]}
    for pair in thing[1]:
        ranks[("pair",) + pair] = thing[1][pair]
    return ranks


def ranks_said(book, given, ranks):
    """Return, by fact, the least rank that rows made of facts with ranks say."""
    said = {}
    for ground in Rules(book, given).wanted(ranks):
        rank = 1 + max([ranks[need] for need in ground.needs], default=0)
        said[ground.says] = min(rank, said.get(ground.says, rank))
    return said


def ranks_fault(book, start, thing):
    """Return what is first wrong in any object as the ranks of the least machine, None if nothing is."""
    need_book(book)
    given = start_rows(book, start)
    ranks = read_ranks(book, thing)
    if ranks is None:
        return ("form", 0)
    said = ranks_said(book, given, ranks)
    wrong = [fact for fact in sorted(set(list(ranks) + list(said))) if ranks.get(fact) != said.get(fact)]
    for word in ("tie", "pair"):
        for fact in wrong:
            if fact[0] == word:
                return fact
    return None


def asked_rank(book, start, asked, state):
    """Return the least rank such that ties of no greater one lead an asked key to a state, None if none do."""
    need_book(book)
    given = start_rows(book, start)
    found = need_asked(book, given, asked)
    need_state(book, state)
    ranks = ranks_called("tie", Growth(book, given, {}).ranks)
    for rank in [0] + sorted(set(list(ranks.values()))):
        paths = Paths(book, [tie for tie in ranks if ranks[tie] <= rank])
        if state in states_led(paths, given, found):
            return rank
    return None
