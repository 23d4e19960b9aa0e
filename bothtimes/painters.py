"""By which step each day of a key is as it is."""

from bothtimes.lines import painted
from bothtimes.steps import covers, known_steps, span_of


def told_by(deeds, table, key, day, *, known=None):
    """Tell (deed, step), the numbers of the last known step that covers the day of the key, or None."""
    last = None
    for at, place, step in known_steps(deeds, table, key, known):
        if covers(step, day):
            last = (at, place)
    return last


def painters(deeds, table, key, *, known=None):
    """Tell the line of the numbers (deed, step) of the last known step that covers each day of the key."""
    line = ()
    for at, place, step in known_steps(deeds, table, key, known):
        low, high = span_of(step)
        line = painted(line, (at, place), low=low, high=high)
    return line
