"""What steps, one behind the other, come to."""

from bothtimes.lines import painted
from bothtimes.steps import span_of, worths_of

# Stands in a line for a row cut, where None would be days that no step covers; worths are never a number.
CUT = 0


def painting(steps):
    """Tell the fewest (table, key, low, high, worths), rising, that the steps come to; None for a row cut."""
    lines = {}
    for step in steps:
        place = (step[1], step[2])
        low, high = span_of(step)
        lines[place] = painted(lines.get(place, ()), what_of(step), low=low, high=high)
    return tuple([piece for place in sorted(lines) for piece in pieces_of(place, lines[place])])


def what_of(step):
    """Tell what stands in a line for what the step tells."""
    worths = worths_of(step)
    return CUT if worths is None else worths


def pieces_of(place, line):
    """List the pieces of a painting that the line of a table's key is."""
    table, key = place
    return [(table, key, low, high, None if what == CUT else what) for low, high, what in line]
