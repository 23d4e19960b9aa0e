"""From when to when a question has its rows, by days and by known days."""

from bothtimes.asking import held_at, rows_of
from bothtimes.lines import bounds, found, joined
from bothtimes.order import rising
from bothtimes.questions import tables_of
from bothtimes.story import known_lines


def spans(plan, deeds, question, *, known=None):
    """Tell (row, low, high), rising, of the fewest spans of days on which each row is in the answer."""
    tables = tables_of(question)
    told = known_lines(deeds, known)
    lines = {place: told[place] for place in told if place[0] in tables}
    days = bounds([piece for place in lines for piece in lines[place]])
    rows = [rows_of(plan, question, held_on(lines, tables, day)) for day in days]
    return spans_from(days, rows)


def held_on(lines, tables, day):
    """Tell the rows of each of these tables that hold on the day: table to key to worths."""
    held = {table: {} for table in tables}
    for (table, key), line in lines.items():
        worths = found(line, day)
        if worths is not None:
            held[table][key] = worths
    return held


def knowns(plan, deeds, question, day):
    """Tell (row, low, high), rising, of the fewest spans of known days on which a row is known for the day."""
    days = sorted(set([told for told, steps in deeds]))
    rows = [rows_of(plan, question, held_at(deeds, question, day, known)) for known in days]
    return spans_from(days, rows)


def spans_from(days, rows):
    """Tell (row, low, high), rising, of rows that hold from each day on to the next one, the last ones on."""
    pieces = {}
    for low, high, held in zip(days, days[1:] + [None], rows):
        for row in held:
            pieces.setdefault(row, []).append((low, high, row))
    return tuple([(row, low, high) for row in rising(list(pieces)) for low, high, what in joined(pieces[row])])
