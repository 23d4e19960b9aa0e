"""The rows of a question, from the rows that hold in its tables."""

from bothtimes.days import is_number
from bothtimes.questions import columns_of, tables_of
from bothtimes.story import rows_at


def held_at(deeds, question, day, known):
    """Tell the rows of each table of the question that hold on the day, as known: table to key to worths."""
    return {table: dict(rows_at(deeds, table, day, known=known)) for table in tables_of(question)}


def rows_of(plan, question, held):
    """List the rows, each once, of the question where its tables hold these."""
    if question[0] == "rows":
        return [(key,) + worths for key, worths in held[question[1]].items()]
    rows = rows_of(plan, question[1], held)
    columns = columns_of(plan, question[1])
    action = ACTIONS[question[0]]
    return action(rows, columns, question, held)


def where_rows(rows, columns, question, held):
    """List the rows that have the thing in the column."""
    at = columns.index(question[2])
    return [row for row in rows if row[at] == question[3]]


def above_rows(rows, columns, question, held):
    """List the rows that have a greater whole number in the column."""
    at = columns.index(question[2])
    return [row for row in rows if is_number(row[at]) and row[at] > question[3]]


def join_rows(rows, columns, question, held):
    """List the rows that name a row of the table, with its worths behind."""
    at = columns.index(question[2])
    worths = held[question[3]]
    return [row + worths[row[at]] for row in rows if row[at] in worths]


def lacking_rows(rows, columns, question, held):
    """List the rows that name no row of the table."""
    at = columns.index(question[2])
    worths = held[question[3]]
    return [row for row in rows if row[at] not in worths]


def keep_rows(rows, columns, question, held):
    """List the rows of the kept columns alone, alike ones once."""
    places = places_of(columns, question[2])
    return list({chosen(row, places): True for row in rows})


def top_rows(rows, columns, question, held):
    """List the rows with the greatest whole number in the column of all alike in the columns."""
    places = places_of(columns, question[2])
    at = columns.index(question[3])
    numbered = [row for row in rows if is_number(row[at])]
    best = {}
    for row in numbered:
        group = chosen(row, places)
        best[group] = max(best.get(group, row[at]), row[at])
    return [row for row in numbered if row[at] == best[chosen(row, places)]]


def count_rows(rows, columns, question, held):
    """List the unlike things in the columns, and how many rows have them."""
    places = places_of(columns, question[2])
    return totals([(chosen(row, places), 1) for row in rows])


def sum_rows(rows, columns, question, held):
    """List the unlike things in the columns, and the sum of all whole numbers in the column of their rows."""
    places = places_of(columns, question[2])
    at = columns.index(question[3])
    return totals([(chosen(row, places), row[at] if is_number(row[at]) else 0) for row in rows])


def places_of(columns, names):
    """List at which places these columns stand."""
    return [columns.index(name) for name in names]


def chosen(row, places):
    """Tell the things of the row at these places."""
    return tuple([row[at] for at in places])


def totals(parts):
    """List each group of the parts (group, number) with the sum of its numbers behind."""
    total = {}
    for group, number in parts:
        total[group] = total.get(group, 0) + number
    return [group + (number,) for group, number in total.items()]


ACTIONS = {
    "where": where_rows, "above": above_rows, "join": join_rows, "lacking": lacking_rows, "keep": keep_rows,
    "top": top_rows, "count": count_rows, "sum": sum_rows,
}
