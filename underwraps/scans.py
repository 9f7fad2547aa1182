"""Scans: texts gone through sign by sign, as far as some right text begins so."""

from underwraps.forms import is_name

# No name is above this one.
LAST_NAME = "zzzzzzzz"
FIGURES = "0123456789"
MOST_FIGURES = 9


def begins_above(begun, above):
    """Tell whether some name that begins so is above another one."""
    return is_name(begun) and begun + LAST_NAME[len(begun):] > above


def place_of(text, at):
    """Return the line and the sign, counted from 1, of an index of a text."""
    ahead = text[:at]
    return (ahead.count("\n") + 1, at - ahead.rfind("\n"))


class Scan:
    """A text, how far it was gone through, and whether it got stuck there: no right text goes on so."""

    def __init__(self, text):
        self.text = text
        self.at = 0
        self.stuck = False

    def next_sign(self):
        """Return the next sign, "" if there is none, or the text got stuck."""
        return "" if self.stuck else self.text[self.at:self.at + 1]

    def take(self, word):
        """Take just these signs."""
        for sign in word:
            if self.next_sign() == sign:
                self.at += 1
            else:
                self.stuck = True

    def take_one(self, words):
        """Take one of some words, the longest one that stands next; return it."""
        begun, left = self.at, words
        while self.next_sign() != "" and left:
            begins = self.text[begun:self.at + 1]
            left = [word for word in left if word.startswith(begins)]
            if left:
                self.at += 1
        found = self.text[begun:self.at]
        if found not in words:
            self.stuck = True
        return found

    def take_name(self, above, barred):
        """Take a name above another one, and other than a barred one; return it."""
        begun = self.at
        while self.next_sign() != "" and begins_above(self.text[begun:self.at + 1], above):
            self.at += 1
        found = self.text[begun:self.at]
        if found <= above or found == barred:
            self.stuck = True
        return found

    def take_number(self):
        """Take a number in figures, without a 0 ahead of others; return the figures."""
        begun = self.at
        # "" stands in each string.
        while self.next_sign() != "" and self.next_sign() in FIGURES and self.may_go_on(self.text[begun:self.at]):
            self.at += 1
        if self.at == begun:
            self.stuck = True
        return self.text[begun:self.at]

    def may_go_on(self, figures):
        """Tell whether one figure more may stand behind some."""
        return figures != "0" and len(figures) < MOST_FIGURES

    def fault(self):
        """Return the place of the first wrong sign, or behind the last sign, None if all was gone through."""
        if not self.stuck and self.at == len(self.text):
            return None
        return place_of(self.text, self.at)
