"""Custody logs, played: handles, what is known, and who holds parts of which keys."""

from underwraps.deeds import read_call
from underwraps.forms import first_word, is_list, is_name, is_number
from underwraps.houses import House
from underwraps.nests import read_key


class CustodyPlay:
    """What is behind a row of calls that were let, in a new house with custodians."""

    def __init__(self, book, start, custody, tellers):
        self.book = book
        self.house = House(book, start)
        self.custody = custody
        self.tellers = tellers
        # By key: the custodians who got a part of it.
        self.got = {}

    def do(self, thing):
        """Do the call that any object is; return why it is refused, None if it is let."""
        word = first_word(thing)
        if word == "part":
            return self.hand_part(thing)
        if word == "join":
            return self.join_key(thing)
        deed = read_call(self.book, thing)
        if deed is None:
            return "call"
        why = self.house.refusal(deed)
        if why is None:
            self.house.carry_out(deed)
        return why

    def hand_part(self, thing):
        """Hand a part of a key to a custodian; return why not, None if it is let."""
        if len(thing) != 3 or not is_number(thing[1]) or not is_name(thing[2]):
            return "call"
        handle, name = self.house.handle_at(thing[1]), thing[2]
        if handle is None:
            return "handle"
        key, role = handle
        if (role, name) not in self.custody.parts:
            return "part"
        self.got.setdefault(key, {})[name] = True
        if len([who for who in self.got[key] if who in self.tellers]) >= self.custody.need:
            self.house.be_told(key)
        return None

    def join_key(self, thing):
        """Join a key whose parts lie with enough custodians; return why not, None if it is let."""
        if len(thing) != 3 or not self.book.has_role(thing[2]):
            return "call"
        key, role = read_key(self.book, thing[1]), thing[2]
        if key is None:
            return "call"
        if role not in self.custody.joins:
            return "join"
        if self.many_holders(key) < self.custody.need:
            return "need"
        self.house.add_handle((key, role))
        return None

    def many_holders(self, key):
        """Return how many custodians hold a key: those who got a part of it, and all tellers, if it is known."""
        telling = self.tellers if self.house.is_known((key,)) else []
        return len(set(list(self.got.get(key, [])) + telling))


def play_custody(book, start, custody, tellers, thing):
    """Return the play of any object, as far as it is a custody log, and its fault, None for a custody log."""
    play = CustodyPlay(book, start, custody, tellers)
    if not is_list(thing):
        return (play, (0, "list"))
    for index, call in enumerate(thing):
        why = play.do(call)
        if why is not None:
            return (play, (index, why))
    return (play, None)
