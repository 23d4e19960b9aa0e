"""Deeds with all that is known on a day told by one of them."""

from bothtimes.painting import painting
from bothtimes.steps import known_deeds, step_of


def settled(deeds, day):
    """Tell the deeds in which all that are known on the day are one, on it, of the steps of their painting."""
    told = known_deeds(deeds, day)
    if not told:
        return deeds
    pieces = painting([step for known, steps in told for step in steps])
    merged = tuple([step_of(table, key, low, high, worths) for table, key, low, high, worths in pieces])
    # Deeds' days don't fall: the known ones are a beginning of them.
    return ((day, merged),) + deeds[len(told):]
