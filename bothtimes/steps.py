"""The parts of steps, and the steps that are known on a day."""

from bothtimes.days import in_span


def span_of(step):
    """Tell a step's low and high."""
    return step[-2], step[-1]


def worths_of(step):
    """Tell the worths that a step puts, or None where it cuts."""
    return step[3] if step[0] == "put" else None


def step_of(table, key, low, high, worths):
    """Tell the step that puts these worths on these days, or cuts the row where they are None."""
    if worths is None:
        return ("cut", table, key, low, high)
    return ("put", table, key, worths, low, high)


def covers(step, day):
    """Tell whether a step tells of the day."""
    low, high = span_of(step)
    return in_span(low, high, day)


def known_deeds(deeds, known):
    """List the deeds up to the day known, it too; all of them where it is None."""
    return [deed for deed in deeds if known is None or deed[0] <= known]


def known_steps(deeds, table, key, known):
    """List (number of the deed, number of the step, step) of all known steps of the key."""
    told = []
    for at, (day, steps) in enumerate(known_deeds(deeds, known)):
        for place, step in enumerate(steps):
            if step[1] == table and step[2] == key:
                told.append((at, place, step))
    return told
