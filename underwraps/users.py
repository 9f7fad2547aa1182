"""Users: what has come out of houses, and what whoever calls them knows by it."""

from underwraps.knowledge import Known


class User:
    """What has come out, as nests, in order; what is known by it; how many keys were made."""

    def __init__(self):
        self.nests = []
        self.known = Known()
        self.made = 0

    def take(self, nest):
        """Have one nest more that comes out."""
        self.nests.append(nest)
        self.known.take(nest)

    def count_make(self):
        """Have one key more made."""
        self.made += 1

    def copy(self):
        """Return one like this one, that goes on by itself."""
        other = User()
        other.nests = list(self.nests)
        other.known = self.known.copy()
        other.made = self.made
        return other
