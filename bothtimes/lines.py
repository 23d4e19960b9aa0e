"""Lines: what holds over spans of days, as rising pieces (low, high, what)."""

from bothtimes.days import FIRST, in_span, is_number, is_span, is_thing


def is_line(thing):
    """Tell whether anything is a line."""
    if not isinstance(thing, tuple) or not all([is_piece(piece) for piece in thing]):
        return False
    return all([goes_on(one, other) for one, other in zip(thing, thing[1:])])


def is_piece(thing):
    """Tell whether anything is a piece of a line."""
    if not isinstance(thing, tuple) or len(thing) != 3:
        return False
    return is_span(thing[0], thing[1]) and is_what(thing[2])


def is_what(thing):
    """Tell whether anything may stand in a piece."""
    if isinstance(thing, tuple):
        return all([is_thing(part) for part in thing])
    return is_number(thing)


def goes_on(one, other):
    """Tell whether a piece may stand right behind another one in a line."""
    end = one[1]
    if end is None or other[0] < end:
        return False
    return end < other[0] or one[2] != other[2]


def found(line, day):
    """Tell what holds on the day, or None."""
    begun = count_begun(line, day)
    if begun == 0:
        return None
    low, high, what = line[begun - 1]
    return what if in_span(low, high, day) else None


def count_begun(line, day):
    """Count the pieces that begin on the day or ahead of it."""
    least = 0
    most = len(line)
    while least < most:
        middle = (least + most) // 2
        if line[middle][0] <= day:
            least = middle + 1
        else:
            most = middle
    return least


def first_bare(line, day):
    """Tell the first day, from this one on, on which the line has nothing; None without one."""
    at = max(count_begun(line, day) - 1, 0)
    while at < len(line) and line[at][0] <= day:
        end = line[at][1]
        if end is None:
            return None
        day = max(day, end)
        at += 1
    return day


def painted(line, what, *, low=FIRST, high=None):
    """Tell the line with this on the days of this span; None for nothing there."""
    if high is not None and high <= low:
        return line
    ahead = clipped(line, FIRST, low)
    amid = [] if what is None else [(low, high, what)]
    behind = [] if high is None else clipped(line, high, None)
    return joined(ahead + amid + behind)


def within(line, *, low=FIRST, high=None):
    """Tell the line on the days of this span alone."""
    return tuple(clipped(line, low, high))


def clipped(line, low, high):
    """List the pieces on the days from low on to below high; none where these are no days."""
    pieces = []
    for start, end, what in line:
        first = max(start, low)
        last = earlier_end(end, high)
        if last is None or first < last:
            pieces.append((first, last, what))
    return pieces


def earlier_end(one, other):
    """Tell the earlier one of two ends; None is no end."""
    if one is None:
        return other
    if other is None:
        return one
    return min(one, other)


def joined(pieces):
    """Join rising pieces that touch and are alike, as no line has two such."""
    line = []
    for low, high, what in pieces:
        if line and line[-1][1] == low and line[-1][2] == what:
            line[-1] = (line[-1][0], high, what)
        else:
            line.append((low, high, what))
    return tuple(line)


def beside(one, other):
    """Tell the pieces (low, high, here, there) of the days on which a line has something."""
    days = bounds(one + other)
    pieces = []
    for low, high in zip(days, days[1:] + [None]):
        pair = (found(one, low), found(other, low))
        if pair != (None, None):
            pieces.append((low, high, pair))
    return tuple([(low, high, here, there) for low, high, (here, there) in joined(pieces)])


def bounds(pieces):
    """List the days, rising, on which some piece begins or has ended."""
    lows = [low for low, high, what in pieces]
    highs = [high for low, high, what in pieces if high is not None]
    return sorted(set(lows + highs))


def bare(line, *, low=FIRST, high=None):
    """Tell the fewest spans of those days of this span on which the line has nothing."""
    spans = []
    start = low
    for first, last, what in clipped(line, low, high):
        if start < first:
            spans.append((start, first))
        if last is None:
            return tuple(spans)
        start = last
    if high is None or start < high:
        spans.append((start, high))
    return tuple(spans)


def filled(line, low, high):
    """List pieces (low, high, what), rising, of all days of this span; what is None where the line has nothing."""
    gaps = [(first, last, None) for first, last in bare(line, low=low, high=high)]
    return sorted(clipped(line, low, high) + gaps, key=lambda piece: piece[0])
