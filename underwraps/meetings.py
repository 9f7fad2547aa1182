"""Meetings: the least lots that have something in common with each of some."""


def least_meetings(lots):
    """Return, ascending, the lots that meet all of some lots, while no lesser part of them does."""
    found = [()]
    for lot in lots:
        met = [some for some in found if any([permit in lot for permit in some])]
        more = [tuple(sorted(some + (permit,))) for some in found for permit in lot]
        # Of two that have to be made longer none is then a lesser part of the other: just what met the lot may be.
        found = met + [
            some for some in more if not any([all([permit in some for permit in least]) for least in met])
        ]
    return sorted(found)
