"""Plans and questions read from their texts."""

from bothtimes.days import is_word
from bothtimes.errors import NoText
from bothtimes.parts import is_number_text, is_thing_text, thing_from
from bothtimes.plans import is_plan
from bothtimes.questions import is_question


def read_plan(text):
    """Tell the plan whose text this is; NoText with the first wrong row of anything else."""
    if not isinstance(text, str):
        raise NoText(0)
    rows = text.split("\n")
    tables = []
    for at, row in enumerate(rows):
        parts = row.split(" ")
        if is_table_row(parts):
            tables.append((parts[1], tuple(parts[2:]), ()))
        elif tables and is_reference_row(parts):
            name, columns, references = tables[-1]
            tables[-1] = (name, columns, references + ((parts[1], parts[2]),))
        else:
            raise NoText(at)
    if not is_plan(tuple(tables)):
        raise NoText(len(rows))
    return tuple(tables)


def is_table_row(parts):
    """Tell whether parts are those of a table's row."""
    return parts[0] == "table" and len(parts) > 1 and are_words(parts[1:])


def is_reference_row(parts):
    """Tell whether parts are those of a reference's row."""
    return parts[0] == "ref" and len(parts) == 3 and are_words(parts[1:])


def are_words(parts):
    """Tell whether all parts are words."""
    return all([is_word(part) for part in parts])


def read_question(plan, text):
    """Tell the question of the plan whose text this is; NoText with the first wrong part of anything else."""
    if not isinstance(text, str):
        raise NoText(0)
    question = None
    for at, part in enumerate(text.split(" | ")):
        question = question_behind(question, part.split(" "))
        if not is_question(plan, question):
            raise NoText(at)
    return question


def question_behind(beneath, parts):
    """Tell what may be a question over the one beneath, or the first where that is None; None of no form."""
    form = parts[0]
    if form == "rows":
        return ("rows", parts[1]) if beneath is None and len(parts) == 2 else None
    if form in ("where", "above", "join", "lacking"):
        return question_of_two(beneath, parts)
    if form in ("keep", "count"):
        return (form, beneath, tuple(parts[1:]))
    if form in ("top", "sum") and len(parts) > 1:
        return (form, beneath, tuple(parts[2:]), parts[1])
    return None


def question_of_two(beneath, parts):
    """Tell what may be a question by a column and one thing more, or None."""
    form = parts[0]
    if len(parts) != 3:
        return None
    if form == "where":
        return (form, beneath, parts[1], thing_from(parts[2])) if is_thing_text(parts[2]) else None
    if form == "above":
        return (form, beneath, parts[1], int(parts[2])) if is_number_text(parts[2]) else None
    return (form, beneath, parts[1], parts[2])
