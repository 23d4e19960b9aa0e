"""How many rows there are on which days, and how long each one lasts."""

from bothtimes.days import FIRST
from bothtimes.lines import bare, clipped, joined
from bothtimes.order import rising


def counted(spans):
    """Tell the line of how many rows there are, nothing where there is none."""
    changes = {}
    for row, low, high in spans:
        changes[low] = changes.get(low, 0) + 1
        if high is not None:
            changes[high] = changes.get(high, 0) - 1
    days = sorted(changes)
    pieces = []
    many = 0
    for low, high in zip(days, days[1:] + [None]):
        many += changes[low]
        if many > 0:
            pieces.append((low, high, many))
    return joined(pieces)


def fullest(spans):
    """Tell (many, day): the greatest number of rows and the first day that has so many; None of no spans."""
    line = counted(spans)
    if not line:
        return None
    most = max([many for low, high, many in line])
    return most, min([low for low, high, many in line if many == most])


def empty(spans, *, low=FIRST, high=None):
    """Tell the fewest spans of days of this span without a row."""
    return bare(counted(spans), low=low, high=high)


def lasting(spans, *, low=FIRST, high=None):
    """Tell the rising (row, days) of rows that are there in this span, on how many of its days; None for no end."""
    lasts = {}
    for row, first, last in spans:
        for start, end, one in clipped([(first, last, 1)], low, high):
            lasts[row] = longer(lasts.get(row, 0), start, end)
    return tuple([(row, lasts[row]) for row in rising(list(lasts))])


def longer(days, low, high):
    """Tell how many days these and those of a span are; None for no end."""
    if days is None or high is None:
        return None
    return days + high - low
