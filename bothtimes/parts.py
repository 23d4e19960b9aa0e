"""How written things and steps are read: just as they are written, and in no other way."""

from bothtimes.days import is_day, is_word

FIGURES = 18


def is_number_text(part):
    """Tell whether a text is a whole number as it is written."""
    figures = part[1:] if part.startswith("-") else part
    if not 1 <= len(figures) <= FIGURES or not all(["0" <= sign <= "9" for sign in figures]):
        return False
    return part == "0" or not figures.startswith("0")


def is_thing_text(part):
    """Tell whether a text is a thing as it is written."""
    return part == "-" or is_word(part) or is_number_text(part)


def thing_from(part):
    """Tell the thing that a thing's text is of."""
    if part == "-":
        return None
    return int(part) if is_number_text(part) else part


def is_day_text(part):
    """Tell whether a text is a day as it is written."""
    return is_number_text(part) and is_day(int(part))


def is_end_text(part):
    """Tell whether a text is a day, or none, as it is written."""
    return part == "-" or is_day_text(part)


def step_from(parts, put, cut):
    """Tell the step, of whatever table, span and worths, that a row's parts are by these first words, or None."""
    if len(parts) < 5 or not is_word(parts[1]) or not is_word(parts[2]):
        return None
    if not is_day_text(parts[3]) or not is_end_text(parts[4]):
        return None
    low = thing_from(parts[3])
    high = thing_from(parts[4])
    if parts[0] == cut and len(parts) == 5:
        return ("cut", parts[1], parts[2], low, high)
    if parts[0] != put or not all([is_thing_text(part) for part in parts[5:]]):
        return None
    return ("put", parts[1], parts[2], tuple([thing_from(part) for part in parts[5:]]), low, high)
