"""What underwraps raises of what is built on logs and machines: each error keeps what it was made with."""

from underwraps.errors import WrapError


class BadMany(WrapError):
    """No number."""

    def __init__(self, many):
        self.many = many


class BadWord(WrapError):
    """No word of the book."""

    def __init__(self, word):
        self.word = word


class BadRow(WrapError):
    """No index of a row of the table."""

    def __init__(self, row):
        self.row = row


class BadMate(WrapError):
    """What cannot stand beside the first one, to be told apart from it."""

    def __init__(self, mate):
        self.mate = mate


class BadLot(WrapError):
    """No lot."""

    def __init__(self, lot):
        self.lot = lot


class BadRole(WrapError):
    """No role that can be taken there."""

    def __init__(self, role):
        self.role = role


class BadBooks(WrapError):
    """The first thing that is no book of several houses."""

    def __init__(self, index):
        self.index = index


class BadStarts(WrapError):
    """The first thing that is no start of several houses, one of each."""

    def __init__(self, index):
        self.index = index


class NoHouse(WrapError):
    """No index of a house."""

    def __init__(self, house):
        self.house = house


class BadHousesLog(WrapError):
    """The first thing that makes a list no log of houses."""

    def __init__(self, index):
        self.index = index


class BadSome(WrapError):
    """No ascending list of shared keys."""

    def __init__(self, some):
        self.some = some


class BadHeld(WrapError):
    """No asked key that the house holds."""

    def __init__(self, asked):
        self.asked = asked


class BadPermit(WrapError):
    """No permit that can be taken there."""

    def __init__(self, permit):
        self.permit = permit


class BadSecrets(WrapError):
    """The first thing that is no secret."""

    def __init__(self, index):
        self.index = index


class BadLots(WrapError):
    """The first thing that is no lot."""

    def __init__(self, index):
        self.index = index


class BadPrices(WrapError):
    """No dict from a book's permits to prices."""

    def __init__(self, prices):
        self.prices = prices


class BadPrice(WrapError):
    """No price."""

    def __init__(self, price):
        self.price = price


class BadCustody(WrapError):
    """No custody of the book."""

    def __init__(self, custody):
        self.custody = custody


class BadTellers(WrapError):
    """No list of custodians."""

    def __init__(self, tellers):
        self.tellers = tellers


class IsAllowed(WrapError):
    """A permit that is let in already."""

    def __init__(self, permit):
        self.permit = permit


class NotAllowed(WrapError):
    """A permit that was not let in."""

    def __init__(self, permit):
        self.permit = permit


class BadGiven(WrapError):
    """No list of a given key's roles."""

    def __init__(self, some):
        self.some = some


class IsGuarded(WrapError):
    """An asked key that is guarded already."""

    def __init__(self, asked):
        self.asked = asked


class NotGuarded(WrapError):
    """An asked key that is not guarded."""

    def __init__(self, asked):
        self.asked = asked


class LetsOut(WrapError):
    """A guarded key that would come out."""

    def __init__(self, asked):
        self.asked = asked


class BadBookText(WrapError):
    """Where a text goes wrong as a book's."""

    def __init__(self, line, sign):
        self.line = line
        self.sign = sign


class BadStartText(WrapError):
    """Where a text goes wrong as a start's."""

    def __init__(self, line, sign):
        self.line = line
        self.sign = sign


class BadThingText(WrapError):
    """Where a text goes wrong as a thing's."""

    def __init__(self, line, sign):
        self.line = line
        self.sign = sign


class BadCalls(WrapError):
    """The first thing that is no call."""

    def __init__(self, index):
        self.index = index


class BadLogText(WrapError):
    """Where a text goes wrong as a log's."""

    def __init__(self, line, sign):
        self.line = line
        self.sign = sign


class BadMachineText(WrapError):
    """Where a text goes wrong as a machine's."""

    def __init__(self, line, sign):
        self.line = line
        self.sign = sign
