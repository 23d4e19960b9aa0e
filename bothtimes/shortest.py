"""The fewest steps that lead a key from one line to another one.

Days are taken together in cells, on which both lines have one thing each, and cells in runs, on which the line
to come has one thing. Steps paint some stretches of cells whole and leave the others, which must be alike, as they
are. In a stretch that is painted whole what was there ahead counts for nothing: one step for each run is enough,
and one is saved wherever two alike runs are painted by one step, with all runs between them painted over it.
"""

from bothtimes.lines import bounds, earlier_end, found
from bothtimes.steps import step_of


def shortest(table, key, before, after):
    """Tell as few steps as can be that lead the key from the line before to the line after."""
    cells = cells_of(before, after)
    numbers = run_numbers(cells)
    runs = runs_of(cells, numbers)
    saved = savings([what for low, high, what in runs])
    steps = []
    for first, last in stretches(cells, numbers, saved):
        for start, end in strokes(runs, saved, numbers[first], numbers[last]):
            low = max(runs[start][0], cells[first][0])
            high = earlier_end(runs[end][1], cells[last][1])
            steps.append(step_of(table, key, low, high, runs[start][2]))
    return tuple(steps)


def cells_of(before, after):
    """List the cells (low, high, here, there), from the first day on which a line has something, gaps too."""
    days = bounds(before + after)
    return [(low, high, found(before, low), found(after, low)) for low, high in zip(days, days[1:] + [None])]


def run_numbers(cells):
    """List for each cell the number of its run."""
    numbers = []
    number = 0
    for at, cell in enumerate(cells):
        if at > 0 and cell[3] != cells[at - 1][3]:
            number += 1
        numbers.append(number)
    return numbers


def runs_of(cells, numbers):
    """List the runs (low, high, what) of cells on which the line to come has one thing, or nothing."""
    runs = []
    for (low, high, here, there), number in zip(cells, numbers):
        if number < len(runs):
            runs[number] = (runs[number][0], high, there)
        else:
            runs.append((low, high, there))
    return runs


def savings(whats):
    """List, by first and last run, how many steps can be saved where the runs from first to last are painted whole."""
    saved = [[0] * len(whats) for run in range(len(whats) + 1)]
    for first in reversed(range(len(whats))):
        fill_savings(saved, whats, first)
    return saved


def fill_savings(saved, whats, first):
    """Fill in what can be saved from the first run on, where it is known from each later run on."""
    inner = saved[first + 1]
    # Of alike runs only those count that save more, painted by one step with the first, than earlier ones and none do:
    # whatever goes on from another one goes on from these as well.
    mates = []
    for last in range(first + 1, len(whats)):
        best = inner[last]
        for mate, gain in mates:
            best = max(best, gain + saved[mate][last])
        if whats[last] == whats[first] and inner[last - 1] + 1 > best:
            best = inner[last - 1] + 1
            mates.append((last, best))
        saved[first][last] = best


def stretches(cells, numbers, saved):
    """List the stretches (first cell, last cell), rising, that are painted whole by the fewest steps in all."""
    fewest = [0]
    begins = []
    unlike = []
    for at, (low, high, here, there) in enumerate(cells):
        if here == there:
            # No stretch needs to begin or end here: each step of it might leave this cell as it is.
            fewest.append(fewest[at])
            begins.append(None)
        else:
            unlike.append(at)
            ways = [(fewest[first] + needed(saved, numbers[first], numbers[at]), first) for first in unlike]
            least, begin = min(ways)
            fewest.append(least)
            begins.append(begin)
    return stretches_back(begins)


def needed(saved, first, last):
    """Tell how many steps paint the runs from first to last whole."""
    return last - first + 1 - saved[first][last]


def stretches_back(begins):
    """List the stretches, rising, where for each cell it is told where the stretch that ends there begins."""
    rising = []
    last = len(begins) - 1
    while last >= 0:
        if begins[last] is None:
            last -= 1
        else:
            rising.append((begins[last], last))
            last = begins[last] - 1
    return rising[::-1]


def strokes(runs, saved, first, last):
    """List (first run, last run) of each step that paints the runs from first to last, in their order."""
    told = []
    left = [(first, last)]
    while left:
        start, end = left.pop()
        if start <= end:
            linked = chain(runs, saved, start, end)
            told.append((start, linked[-1]))
            left.append((linked[-1] + 1, end))
            for one, other in zip(linked, linked[1:]):
                left.append((one + 1, other - 1))
    return told


def chain(runs, saved, start, end):
    """List the runs, up to the end, that one step paints with the start."""
    linked = [start]
    mate = mate_of(runs, saved, start, end)
    while mate is not None:
        linked.append(mate)
        mate = mate_of(runs, saved, mate, end)
    return linked


def mate_of(runs, saved, first, last):
    """Tell the next run, up to the last, that is painted by one step with the first, or None."""
    most = saved[first][last]
    if most == saved[first + 1][last]:
        return None
    for mate in range(first + 2, last + 1):
        if runs[mate][2] == runs[first][2] and saved[first + 1][mate - 1] + 1 + saved[mate][last] == most:
            return mate
    return None
