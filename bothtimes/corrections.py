"""Corrections: what a patch must be to be told, what it must find, and its steps."""

from bothtimes.days import is_span, is_word
from bothtimes.errors import NoFit
from bothtimes.lines import filled, goes_on
from bothtimes.plans import are_worths, table_named
from bothtimes.steps import step_of


def is_patch(plan, thing):
    """Tell whether anything is a patch of rows of the plan."""
    if not isinstance(thing, tuple) or not all([is_change(plan, piece) for piece in thing]):
        return False
    return all([comes_ahead(one, other) for one, other in zip(thing, thing[1:])])


def is_change(plan, thing):
    """Tell whether anything is a piece of a patch of rows of the plan."""
    if not isinstance(thing, tuple) or len(thing) != 6:
        return False
    name, key, low, high, ahead, behind = thing
    table = table_named(plan, name)
    if table is None or not is_word(key) or not is_span(low, high):
        return False
    return may_hold(table, ahead) and may_hold(table, behind) and ahead != behind


def may_hold(table, thing):
    """Tell whether anything is a row's worths in this table, or None for no row."""
    return thing is None or are_worths(table, thing)


def comes_ahead(one, other):
    """Tell whether a piece of a patch may stand right ahead of another one."""
    if one[:2] != other[:2]:
        return one[:2] < other[:2]
    return goes_on((one[2], one[3], one[4:]), (other[2], other[3], other[4:]))


def check_fit(lines, pieces):
    """Refuse a patch where these lines by (table, key) have not what it has ahead."""
    for table, key, low, high, ahead, behind in pieces:
        for day, end, what in filled(lines.get((table, key), ()), low, high):
            if what != ahead:
                raise NoFit(table, key, day)


def steps_behind(pieces):
    """Tell the steps that put or cut, piece by piece, what a patch has behind."""
    return tuple([step_of(table, key, low, high, behind) for table, key, low, high, ahead, behind in pieces])
