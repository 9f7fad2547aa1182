"""Logs, played: what their calls told, and by which permits they were let."""

from underwraps.deeds import read_call
from underwraps.errors import BadLog
from underwraps.forms import is_list
from underwraps.houses import House


class Play:
    """What is behind a row of deeds that were let, one behind another, in a new house."""

    def __init__(self, book, start):
        self.house = House(book, start)
        # How many handles the start has.
        self.given = len(self.house.handles())
        self.deeds = []
        self.permits = []
        # By deed: the number of the handle that it made, or the nest that came out.
        self.told = []

    def do(self, deed):
        """Do one deed more; return why it is refused, None if it is let."""
        why = self.house.refusal(deed)
        if why is None:
            self.deeds.append(deed)
            self.permits.append(self.house.permit_of(deed))
            self.told.append(self.house.carry_out(deed))
        return why

    def again(self, deeds):
        """Return the play of these deeds from the same start, None if one of them is refused."""
        other = Play(self.house.book(), self.house.start())
        for deed in deeds:
            if other.do(deed) is not None:
                return None
        return other


def play_calls(book, start, thing):
    """Return the play of any object, as far as it is a log, and its fault, None for a log."""
    play = Play(book, start)
    if not is_list(thing):
        return (play, (0, "list"))
    for index, call in enumerate(thing):
        deed = read_call(book, call)
        why = "call" if deed is None else play.do(deed)
        if why is not None:
            return (play, (index, why))
    return (play, None)


def need_play(book, start, log):
    """Return the play of a log; raise BadLog for none."""
    play, fault = play_calls(book, start, log)
    if fault is not None:
        raise BadLog(fault[0])
    return play
