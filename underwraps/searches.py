"""Searches: what labels lead to from somewhere, and the first word that leads there."""


def reached_from(begun, labels, after):
    """Return a dict from each place that words lead to from one, to the place ahead and the last label.

    after tells where a label leads from a place; where the search begins nothing is ahead, None. The
    places stand in the order of their first words: shorter ones ahead, those of one length ascending.
    """
    ahead = {begun: None}
    level = [begun]
    while level:
        further = []
        for place in level:
            for label in labels:
                later = after(place, label)
                if later not in ahead:
                    ahead[later] = (place, label)
                    further.append(later)
        level = further
    return ahead


def first_word_to(ahead, place):
    """Return the first word that leads to a place that a search has reached."""
    word = []
    while ahead[place] is not None:
        place, label = ahead[place]
        word.append(label)
    return tuple(word[::-1])
