"""Searches: what labels lead to from somewhere, and the first word that leads there."""


def reached_by(begun, further):
    """Return a dict from each place that steps lead to from one, to the place ahead and the last step.

    further tells of a place which steps there are, and where they lead; where the search begins nothing is
    ahead, None. The places stand in the order of the first rows of steps that lead there: shorter ones ahead.
    """
    ahead = {begun: None}
    level = [begun]
    while level:
        fresh = []
        for place in level:
            for step, later in further(place):
                if later not in ahead:
                    ahead[later] = (place, step)
                    fresh.append(later)
        level = fresh
    return ahead


def reached_from(begun, labels, after):
    """Return a dict from each place that words lead to from one, to the place ahead and the last label.

    after tells where a label leads from a place. The places stand in the order of their first words:
    shorter ones ahead, those of one length ascending.
    """
    return reached_by(begun, lambda place: [(label, after(place, label)) for label in labels])


def first_word_to(ahead, place):
    """Return the first word that leads to a place that a search has reached."""
    word = []
    while ahead[place] is not None:
        place, label = ahead[place]
        word.append(label)
    return tuple(word[::-1])
