"""Whole numbers, words, things, days and spans of days."""

FIRST = 0
MOST = 60
LAST = 10 ** 12
LETTERS = 8


def is_number(thing):
    """Tell whether anything is a whole number: an int that is no truth."""
    return isinstance(thing, int) and not isinstance(thing, bool)


def is_word(thing):
    """Tell whether anything is a text of one to eight letters a to z."""
    if not isinstance(thing, str) or not 1 <= len(thing) <= LETTERS:
        return False
    return all(["a" <= sign <= "z" for sign in thing])


def is_thing(thing):
    """Tell whether anything is a whole number, a word, or None."""
    return thing is None or is_number(thing) or is_word(thing)


def is_day(thing):
    """Tell whether anything is a day."""
    return is_number(thing) and FIRST <= thing <= LAST


def is_span(low, high):
    """Tell whether anything as low and as high makes a span; high None is no end."""
    return is_day(low) and (high is None or (is_day(high) and low < high))


def in_span(low, high, day):
    """Tell whether a day is one of a span's."""
    return low <= day and (high is None or day < high)
