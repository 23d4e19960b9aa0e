"""What is known, on a day or from which day on, of a table's rows."""

from bothtimes.lines import painted
from bothtimes.steps import covers, known_deeds, known_steps, span_of, worths_of


def line_of(deeds, table, key, *, known=None):
    """Tell the line of the key's worths as known on a day, or by all deeds."""
    line = ()
    for at, place, step in known_steps(deeds, table, key, known):
        low, high = span_of(step)
        line = painted(line, worths_of(step), low=low, high=high)
    return line


def known_lines(deeds, known):
    """Tell the line of each (table, key) that known steps name, in a dict; of some of these it may be empty."""
    return lines_behind({}, [step for told, steps in known_deeds(deeds, known) for step in steps])


def lines_behind(lines, steps):
    """Tell what lines by (table, key) come to behind these steps, in a dict of its own."""
    behind = {place: lines[place] for place in lines}
    for step in steps:
        place = (step[1], step[2])
        low, high = span_of(step)
        behind[place] = painted(behind.get(place, ()), worths_of(step), low=low, high=high)
    return behind


def rows_at(deeds, table, day, *, known=None):
    """Tell the rising (key, worths) that hold on the day, as known on a day, or by all deeds."""
    held = {}
    for told, steps in known_deeds(deeds, known):
        for step in steps:
            if step[1] == table and covers(step, day):
                held[step[2]] = worths_of(step)
    return tuple([(key, held[key]) for key in sorted(held) if held[key] is not None])


def known_line(deeds, table, key, day):
    """Tell the line, by known days, of the worths that are known to hold on the day."""
    line = ()
    for at, place, step in known_steps(deeds, table, key, None):
        if covers(step, day):
            line = painted(line, worths_of(step), low=deeds[at][0])
    return line
