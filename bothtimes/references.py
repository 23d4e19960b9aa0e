"""References that break: rows that name a key which has no row on their day."""

from bothtimes.days import in_span
from bothtimes.lines import first_bare
from bothtimes.story import known_lines


def broken(plan, deeds, *, known=None):
    """Tell the least (day, table, key, column) at which a reference breaks, or None."""
    return least_break(plan, known_lines(deeds, known))


def least_break(plan, lines):
    """Tell the least (day, table, key, column) at which a reference of lines by (table, key) breaks, or None."""
    breaks = []
    for table, columns, references in plan:
        for column, target in references:
            for key, day in first_breaks(lines, table, columns.index(column), target):
                breaks.append((day, table, key, column))
    return min(breaks, default=None)


def first_breaks(lines, table, at, target):
    """List (key, day) of the first day on which each key's reference in the column at this place breaks."""
    breaks = []
    for (name, key), line in lines.items():
        day = first_break(lines, line, at, target) if name == table else None
        if day is not None:
            breaks.append((key, day))
    return breaks


def first_break(lines, line, at, target):
    """Tell the first day on which the line names a key that the target has no row of, or None."""
    for low, high, worths in line:
        word = worths[at]
        if word is not None:
            day = first_bare(lines.get((target, word), ()), low)
            if day is not None and in_span(low, high, day):
                return day
    return None
