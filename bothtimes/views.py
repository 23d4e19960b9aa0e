"""What a deed changes in the spans of a question."""

from bothtimes.lines import beside
from bothtimes.order import rising


def touched_spans(ahead, now):
    """Tell (row, low, high, side), rising, of the fewest spans on which a row is there now alone, 1, or was, 0."""
    gone = lines_of_rows(ahead)
    come = lines_of_rows(now)
    pieces = []
    for row in rising(list(gone) + list(come)):
        for low, high, here, there in beside(gone.get(row, ()), come.get(row, ())):
            if here != there:
                pieces.append((row, low, high, 1 if here is None else 0))
    return tuple(pieces)


def lines_of_rows(told):
    """Tell, by row, the line that has 1 on the days of its spans."""
    lines = {}
    for row, low, high in told:
        lines[row] = lines.get(row, ()) + ((low, high, 1),)
    return lines
