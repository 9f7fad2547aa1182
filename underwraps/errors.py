"""What underwraps raises: each error keeps what it was made with."""


class WrapError(ValueError):
    """What every error of this package is."""


class BadRoles(WrapError):
    """No list of unlike names other than "known"."""

    def __init__(self, roles):
        self.roles = roles


class BadLabels(WrapError):
    """No list of unlike names."""

    def __init__(self, labels):
        self.labels = labels


class BadPermits(WrapError):
    """The first thing that is no permit there, or stood ahead."""

    def __init__(self, index):
        self.index = index


class BadBook(WrapError):
    """No Book."""

    def __init__(self, book):
        self.book = book


class BadStart(WrapError):
    """The first thing that is no list of a given key's roles."""

    def __init__(self, index):
        self.index = index


class BadOther(WrapError):
    """No Book to compare a book with."""

    def __init__(self, other):
        self.other = other


class BadNames(WrapError):
    """No dict from a book's roles and labels to what they may be called."""

    def __init__(self, names):
        self.names = names


class BadKey(WrapError):
    """No key of the book."""

    def __init__(self, key):
        self.key = key


class BadLabel(WrapError):
    """No label of the book."""

    def __init__(self, label):
        self.label = label


class BadThing(WrapError):
    """No thing of the book."""

    def __init__(self, thing):
        self.thing = thing


class BadThings(WrapError):
    """The first thing that is none of the book."""

    def __init__(self, index):
        self.index = index


class BadChest(WrapError):
    """No pair of a list of keys and a list of closed things."""

    def __init__(self, chest):
        self.chest = chest


class BadCall(WrapError):
    """No call of the book."""

    def __init__(self, call):
        self.call = call


class NoHandle(WrapError):
    """A number that no handle of the house has."""

    def __init__(self, handle):
        self.handle = handle


class NoPermit(WrapError):
    """The permit that the book has not, and by which a call were let."""

    def __init__(self, permit):
        self.permit = permit


class NotKnown(WrapError):
    """What a user hands over and does not know."""

    def __init__(self, thing):
        self.thing = thing


class NotUnder(WrapError):
    """What is not closed under the handle's key."""

    def __init__(self, thing):
        self.thing = thing


class NotKey(WrapError):
    """What stands under a key, where a key is to stand."""

    def __init__(self, thing):
        self.thing = thing


class BadLog(WrapError):
    """The first thing that makes a list no log."""

    def __init__(self, index):
        self.index = index


class BadIndex(WrapError):
    """No index there."""

    def __init__(self, index):
        self.index = index


class Untold(WrapError):
    """A key that the log does not tell."""

    def __init__(self, key):
        self.key = key


class BadBehind(WrapError):
    """The first thing that makes the other list no log."""

    def __init__(self, index):
        self.index = index


class BadTies(WrapError):
    """The first thing that is no tie, or stood ahead."""

    def __init__(self, index):
        self.index = index


class BadRoot(WrapError):
    """No root of the book and the start."""

    def __init__(self, root):
        self.root = root


class BadAsked(WrapError):
    """No asked key of the book and the start."""

    def __init__(self, asked):
        self.asked = asked


class BadStates(WrapError):
    """No list of states."""

    def __init__(self, states):
        self.states = states


class BadMachine(WrapError):
    """No machine of the book."""

    def __init__(self, machine):
        self.machine = machine


class BadSecond(WrapError):
    """What cannot stand second beside the first one."""

    def __init__(self, second):
        self.second = second


class BadHouse(WrapError):
    """No House of the book and the start."""

    def __init__(self, house):
        self.house = house


class BadState(WrapError):
    """No state of the book."""

    def __init__(self, state):
        self.state = state


class BadQuestions(WrapError):
    """The first thing that is no question."""

    def __init__(self, index):
        self.index = index


class BadRows(WrapError):
    """The first thing that is no row of a proof."""

    def __init__(self, index):
        self.index = index


class BadProof(WrapError):
    """No proof of what is asked."""

    def __init__(self, proof):
        self.proof = proof


class BadFirst(WrapError):
    """The first thing that makes the first list no log."""

    def __init__(self, index):
        self.index = index


class BadTable(WrapError):
    """No table there."""

    def __init__(self, table):
        self.table = table
