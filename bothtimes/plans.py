"""Plans of tables, and what steps and deeds of a plan are."""

from bothtimes.days import is_day, is_span, is_thing, is_word

MOST_TABLES = 6
MOST_COLUMNS = 4
# Questions give these names to columns of their own.
TAKEN = ("key", "many", "sum")


def is_plan(thing):
    """Tell whether anything is a plan."""
    if not isinstance(thing, tuple) or not 1 <= len(thing) <= MOST_TABLES:
        return False
    if not all([is_table(table) for table in thing]):
        return False
    names = [table[0] for table in thing]
    targets = [target for table in thing for column, target in table[2]]
    return are_rising(names) and all([target in names for target in targets])


def are_rising(words):
    """Tell whether words rise, each once."""
    return all([one < other for one, other in zip(words, words[1:])])


def is_table(thing):
    """Tell whether anything is a table, of whatever plan."""
    if not isinstance(thing, tuple) or len(thing) != 3:
        return False
    name, columns, references = thing
    return is_word(name) and are_columns(columns) and are_references(columns, references)


def are_columns(thing):
    """Tell whether anything is a table's columns."""
    if not isinstance(thing, tuple) or len(thing) > MOST_COLUMNS:
        return False
    if not all([is_word(column) and column not in TAKEN for column in thing]):
        return False
    return len(set(thing)) == len(thing)


def are_references(columns, thing):
    """Tell whether anything is references of these columns, to tables of whatever plan."""
    if not isinstance(thing, tuple) or not all([is_reference(columns, pair) for pair in thing]):
        return False
    return are_rising([column for column, target in thing])


def is_reference(columns, thing):
    """Tell whether anything is a reference of one of these columns."""
    if not isinstance(thing, tuple) or len(thing) != 2:
        return False
    column, target = thing
    return is_word(column) and column in columns and is_word(target)


def is_step(plan, thing):
    """Tell whether anything is a step of the plan."""
    return is_plan(plan) and step_fits(plan, thing)


def is_deed(plan, thing):
    """Tell whether anything is a deed of the plan."""
    return is_plan(plan) and deed_fits(plan, thing)


def are_deeds(plan, thing):
    """Tell whether anything is deeds of the plan."""
    if not is_plan(plan) or not isinstance(thing, tuple):
        return False
    if not all([deed_fits(plan, deed) for deed in thing]):
        return False
    return all([one[0] <= other[0] for one, other in zip(thing, thing[1:])])


def deed_fits(plan, thing):
    """Tell whether anything is a deed of what is known to be a plan."""
    if not isinstance(thing, tuple) or len(thing) != 2:
        return False
    day, steps = thing
    if not is_day(day) or not isinstance(steps, tuple) or not steps:
        return False
    return all([step_fits(plan, step) for step in steps])


def step_fits(plan, thing):
    """Tell whether anything is a step of what is known to be a plan."""
    if not isinstance(thing, tuple) or len(thing) not in (5, 6) or not isinstance(thing[0], str):
        return False
    table = table_named(plan, thing[1])
    if table is None or not is_word(thing[2]) or not is_span(thing[-2], thing[-1]):
        return False
    if len(thing) == 5:
        return thing[0] == "cut"
    return thing[0] == "put" and are_worths(table, thing[3])


def table_named(plan, name):
    """Tell the plan's table that anything names, or None."""
    if not is_word(name):
        return None
    for table in plan:
        if table[0] == name:
            return table
    return None


def are_worths(table, thing):
    """Tell whether anything is a row's worths in this table."""
    columns = table[1]
    if not isinstance(thing, tuple) or len(thing) != len(columns):
        return False
    referring = [column for column, target in table[2]]
    return all([is_worth(worth, column in referring) for column, worth in zip(columns, thing)])


def is_worth(thing, referring):
    """Tell whether anything may stand in a column, which refers to a table or not."""
    if referring:
        return thing is None or is_word(thing)
    return is_thing(thing)
