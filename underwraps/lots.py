"""Lots of permits: idle ones, lots that tell secrets, lots without which all is kept, guards."""

from underwraps.books import Book, need_book, read_permit, start_rows, without
from underwraps.forms import is_list
from underwraps.growth import Growth, any_out
from underwraps.machines import machine_of
from underwraps.meetings import least_meetings
from underwraps.refusals import BadLots, BadPermit, BadSecrets
from underwraps.states import read_asked


def machine_without(book, given, permits):
    """Return the least machine of the book without some of its permits."""
    return machine_of(Growth(without(book, permits), given, {}).ranks)


def is_idle_there(book, given, permit):
    """Tell whether the least machine is the same without a permit of the book."""
    return machine_without(book, given, [permit]) == machine_without(book, given, [])


def is_idle(book, start, permit):
    """Tell whether the least machine is the same without a permit of the book."""
    need_book(book)
    given = start_rows(book, start)
    found = read_permit(book.all_roles(), book.all_labels(), permit)
    if not book.lets(found):
        raise BadPermit(permit)
    return is_idle_there(book, given, found)


def idle_permits(book, start):
    """Return the lot of the permits without one of which the least machine is the same."""
    need_book(book)
    given = start_rows(book, start)
    return [permit for permit in book.all_permits() if is_idle_there(book, given, permit)]


def thinned_book(book, start):
    """Return the book that is left if, ascending, each permit is taken away that is idle in what is left then."""
    need_book(book)
    given = start_rows(book, start)
    left = book
    for permit in book.all_permits():
        if is_idle_there(left, given, permit):
            left = without(left, [permit])
    return left


def read_secret(book, given, thing):
    """Return the asked key, no own one, that any object is, None if it is none."""
    asked = read_asked(book, given, thing)
    return None if asked is None or asked[0] == "known" else asked


class Judge:
    """Tells which lots of a book's permits tell secrets."""

    def __init__(self, book, given, secrets):
        self.book = book
        self.given = given
        self.secrets = secrets
        self.permits = tuple(book.all_permits())
        # What was told, by lot: the same ones are asked for again and again.
        self.told = {}

    def tells(self, lot):
        """Tell whether the book of a lot's permits alone does not keep the secrets."""
        if lot not in self.told:
            book = Book(self.book.all_roles(), self.book.all_labels(), lot)
            self.told[lot] = any_out(book, self.given, self.secrets)
        return self.told[lot]

    def keeps(self, lot):
        """Tell whether the book without a lot's permits keeps the secrets."""
        return not self.tells(less(self.permits, lot))

    def is_telling(self, lot):
        """Tell whether a lot tells, and without any one of it none does."""
        return self.tells(lot) and not any([self.tells(less(lot, (permit,))) for permit in lot])

    def is_keeping(self, lot):
        """Tell whether a lot keeps, and without any one of it none does."""
        return self.keeps(lot) and not any([self.keeps(less(lot, (permit,))) for permit in lot])

    def least_of(self, lot):
        """Return of a lot that tells what is left if each permit is left out without which it still tells."""
        left = lot
        for permit in lot:
            if self.tells(less(left, (permit,))):
                left = less(left, (permit,))
        return left

    def both(self):
        """Return all least lots that tell, and all least ones that keep, ascending."""
        telling, keeping, wrong = [], [], [()]
        while wrong:
            keeping = least_meetings(telling)
            # What meets all that are found, and does not keep, leaves a lot that tells and was not found.
            wrong = [lot for lot in keeping if not self.keeps(lot)]
            telling += sorted(set([self.least_of(less(self.permits, lot)) for lot in wrong]))
        return (sorted(telling), keeping)


def less(lot, gone):
    """Return a lot without some permits."""
    return tuple([permit for permit in lot if permit not in gone])


def need_judge(book, start, secrets):
    """Return the judge of what is passed; raise the error of what is wrong."""
    need_book(book)
    given = start_rows(book, start)
    if not is_list(secrets):
        raise BadSecrets(0)
    found = [read_secret(book, given, thing) for thing in secrets]
    if None in found:
        raise BadSecrets(found.index(None))
    return Judge(book, given, found)


def read_lot(book, thing):
    """Return the lot of permits of the book that any object is, None if it is none."""
    if not is_list(thing):
        return None
    lot = [read_permit(book.all_roles(), book.all_labels(), part) for part in thing]
    if not all([book.lets(permit) for permit in lot]):
        return None
    return tuple(lot) if all([permit < later for permit, later in zip(lot, lot[1:])]) else None


def as_told(lots):
    """Return the list of lots as lists."""
    return [list(lot) for lot in lots]


def is_kept(book, start, secrets):
    """Tell whether none of the secrets comes out."""
    return need_judge(book, start, secrets).keeps(())


def telling_lots(book, start, secrets):
    """Return the ascending list of the lots that tell while no lesser part of them does."""
    telling, _ = need_judge(book, start, secrets).both()
    return as_told(telling)


def keeping_lots(book, start, secrets):
    """Return the ascending list of the lots that keep while no lesser part of them does."""
    _, keeping = need_judge(book, start, secrets).both()
    return as_told(keeping)


def is_telling_lot(book, start, secrets, thing):
    """Tell whether any object is a lot that tells while no lesser part of it does."""
    judge = need_judge(book, start, secrets)
    lot = read_lot(book, thing)
    return lot is not None and judge.is_telling(lot)


def is_keeping_lot(book, start, secrets, thing):
    """Tell whether any object is a lot that keeps while no lesser part of it does."""
    judge = need_judge(book, start, secrets)
    lot = read_lot(book, thing)
    return lot is not None and judge.is_keeping(lot)


def least_meeting(book, lots):
    """Return the ascending list of the lots that meet all of some while no lesser part of them does."""
    need_book(book)
    if not is_list(lots):
        raise BadLots(0)
    found = [read_lot(book, thing) for thing in lots]
    if None in found:
        raise BadLots(found.index(None))
    return as_told(least_meetings(found))


def lots_fault(book, start, secrets, thing):
    """Return what is first wrong in any object as both lists of lots, that tell and that keep, None if nothing is."""
    judge = need_judge(book, start, secrets)
    if not is_list(thing) or len(thing) != 2 or not all([is_list(part) for part in thing]):
        return ("form", 0)
    telling = [read_lot(book, part) for part in thing[0]]
    keeping = [read_lot(book, part) for part in thing[1]]
    for index, lot in enumerate(telling):
        if lot is None or not judge.is_telling(lot) or (index > 0 and lot <= telling[index - 1]):
            return ("telling", index)
    for index, lot in enumerate(keeping):
        if lot is None or not judge.is_keeping(lot) or (index > 0 and lot <= keeping[index - 1]):
            return ("keeping", index)
    lacks = [met for met in least_meetings(telling) if met not in keeping]
    return ("lacks", list(lacks[0])) if lacks else None


def guards(book, start, secrets):
    """Return the lot of the permits each of which, taken away alone, leaves a book that keeps."""
    judge = need_judge(book, start, secrets)
    return [permit for permit in judge.permits if judge.keeps((permit,))]
