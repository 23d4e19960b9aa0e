"""What a question of a plan is, and what columns it has."""

from bothtimes.days import is_number, is_thing, is_word
from bothtimes.plans import is_plan, table_named

DEEPEST = 6
# How many parts a question of each form has, its form counted.
PARTS = {"where": 4, "above": 4, "join": 4, "lacking": 4, "keep": 3, "top": 4, "count": 3, "sum": 4}


def is_question(plan, thing):
    """Tell whether anything is a question of the plan."""
    return is_plan(plan) and columns_found(plan, thing, DEEPEST) is not None


def columns_found(plan, thing, deep):
    """Tell the columns of anything that is a question at most so deep, else None."""
    if deep == 0 or not isinstance(thing, tuple) or not thing or not isinstance(thing[0], str):
        return None
    if thing[0] == "rows":
        named = len(thing) == 2 and table_named(plan, thing[1]) is not None
        return columns_of(plan, thing) if named else None
    if len(thing) != PARTS.get(thing[0]):
        return None
    columns = columns_found(plan, thing[1], deep - 1)
    if columns is None or not parts_fit(plan, columns, thing):
        return None
    return columns_behind(plan, columns, thing)


def columns_of(plan, question):
    """Tell the columns of a question."""
    if question[0] == "rows":
        return ("key",) + table_named(plan, question[1])[1]
    return columns_behind(plan, columns_of(plan, question[1]), question)


def columns_behind(plan, columns, question):
    """Tell the columns of a question over another one that has these."""
    form = question[0]
    if form == "join":
        return columns + table_named(plan, question[3])[1]
    if form == "keep":
        return question[2]
    if form == "count":
        return question[2] + ("many",)
    if form == "sum":
        return question[2] + ("sum",)
    return columns


def tables_of(question):
    """List the tables that a question names, some of them perhaps twice."""
    if question[0] == "rows":
        return [question[1]]
    named = [question[3]] if question[0] in ("join", "lacking") else []
    return tables_of(question[1]) + named


def is_column(columns, thing):
    """Tell whether anything is one of these columns."""
    return is_word(thing) and thing in columns


def are_chosen(columns, thing):
    """Tell whether anything is a tuple of unlike ones of these columns."""
    if not isinstance(thing, tuple) or not all([is_column(columns, column) for column in thing]):
        return False
    return len(set(thing)) == len(thing)


def where_fits(plan, columns, thing):
    """Tell whether the parts of a where fit a question of these columns."""
    return is_column(columns, thing[2]) and is_thing(thing[3])


def above_fits(plan, columns, thing):
    """Tell whether the parts of an above fit a question of these columns."""
    return is_column(columns, thing[2]) and is_number(thing[3])


def join_fits(plan, columns, thing):
    """Tell whether the parts of a join fit: no column may come twice."""
    table = table_named(plan, thing[3])
    if table is None or not is_column(columns, thing[2]):
        return False
    return not any([column in columns for column in table[1]])


def lacking_fits(plan, columns, thing):
    """Tell whether the parts of a lacking fit a question of these columns."""
    return is_column(columns, thing[2]) and table_named(plan, thing[3]) is not None


def keep_fits(plan, columns, thing):
    """Tell whether the parts of a keep fit: it keeps one column or more."""
    return are_chosen(columns, thing[2]) and len(thing[2]) > 0


def top_fits(plan, columns, thing):
    """Tell whether the parts of a top fit a question of these columns."""
    return are_chosen(columns, thing[2]) and is_column(columns, thing[3])


def count_fits(plan, columns, thing):
    """Tell whether the parts of a count fit: its own column is not one of those it counts by."""
    return are_chosen(columns, thing[2]) and "many" not in thing[2]


def sum_fits(plan, columns, thing):
    """Tell whether the parts of a sum fit: its own column is not one of those it sums by."""
    return are_chosen(columns, thing[2]) and "sum" not in thing[2] and is_column(columns, thing[3])


FITS = {
    "where": where_fits, "above": above_fits, "join": join_fits, "lacking": lacking_fits, "keep": keep_fits,
    "top": top_fits, "count": count_fits, "sum": sum_fits,
}


def parts_fit(plan, columns, thing):
    """Tell whether the parts of a thing of a form's size fit a question of these columns beneath."""
    fits = FITS[thing[0]]
    return fits(plan, columns, thing)
