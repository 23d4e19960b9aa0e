"""A desk: a store of a plan's text, told and asked by lines of text."""

from bothtimes.answers import answer
from bothtimes.days import is_word
from bothtimes.errors import NoLine
from bothtimes.parts import is_day_text, is_end_text, step_from, thing_from
from bothtimes.reading import read_plan, read_question
from bothtimes.spans import spans
from bothtimes.store import Store
from bothtimes.writing import row_text

NOTHING = "."


def day_in(part):
    """Tell the day that a part of a line is."""
    if not is_day_text(part):
        raise NoLine()
    return thing_from(part)


def end_in(part):
    """Tell the day, or None for no end and for all known, that a part of a line is."""
    if not is_end_text(part):
        raise NoLine()
    return thing_from(part)


def word_in(part):
    """Tell the word that a part of a line is."""
    if not is_word(part):
        raise NoLine()
    return part


def check_size(parts, many):
    """Refuse a line that has not just so many parts."""
    if len(parts) != many:
        raise NoLine()


def rest_of(parts, first):
    """Tell all that stands behind the blank ahead of the part of this number."""
    if len(parts) <= first:
        raise NoLine()
    return " ".join(parts[first:])


def rows_text(rows):
    """Tell rows of things, parted, or that there is nothing to tell."""
    return " ; ".join([row_text(row) for row in rows]) if rows else NOTHING


def patch_text(pieces):
    """Tell a patch."""
    rows = []
    for table, key, low, high, ahead, behind in pieces:
        rows.append((table, key, low, high) + worths_words(ahead) + (">",) + worths_words(behind))
    return rows_text(rows)


def worths_words(worths):
    """Tell what stands for a row's worths, or for no row."""
    return (NOTHING,) if worths is None else worths


def spans_text(told):
    """Tell rows with what stands behind each, as the spans of a question do."""
    return rows_text([piece[0] + piece[1:] for piece in told])


def say_tell(store, parts):
    """Tell a deed; answer its patch."""
    texts = rest_of(parts, 2).split(" ; ")
    day = day_in(parts[1])
    steps = [step_from(text.split(" "), "put", "cut") for text in texts]
    if None in steps:
        raise NoLine()
    return patch_text(store.tell(day, tuple(steps)))


def say_restore(store, parts):
    """Restore what was known; answer the deed's patch."""
    check_size(parts, 7)
    day = day_in(parts[1])
    table = word_in(parts[2])
    key = word_in(parts[3])
    low = day_in(parts[4])
    high = end_in(parts[5])
    known = end_in(parts[6])
    return patch_text(store.restore(day, table, key, known=known, low=low, high=high))


def say_line(store, parts):
    """Answer a key's line."""
    check_size(parts, 4)
    table = word_in(parts[1])
    key = word_in(parts[2])
    line = store.line(table, key, known=end_in(parts[3]))
    return rows_text([(low, high) + worths for low, high, worths in line])


def say_rows(store, parts):
    """Answer a table's rows of a day."""
    check_size(parts, 4)
    table = word_in(parts[1])
    day = day_in(parts[2])
    return rows_text([(key,) + worths for key, worths in store.rows(table, day, known=end_in(parts[3]))])


def say_ask(store, parts):
    """Answer a question's rows of a day."""
    text = rest_of(parts, 3)
    day = day_in(parts[1])
    known = end_in(parts[2])
    question = read_question(store.plan, text)
    return rows_text(answer(store.plan, store.deeds(), question, day, known=known))


def say_spans(store, parts):
    """Answer a question's spans."""
    text = rest_of(parts, 2)
    known = end_in(parts[1])
    question = read_question(store.plan, text)
    return spans_text(spans(store.plan, store.deeds(), question, known=known))


def say_keep(store, parts):
    """Keep a view."""
    text = rest_of(parts, 2)
    name = word_in(parts[1])
    store.keep(name, read_question(store.plan, text))
    return "done"


def say_drop(store, parts):
    """Keep a view no longer."""
    check_size(parts, 2)
    store.drop(word_in(parts[1]))
    return "done"


def say_view(store, parts):
    """Answer a view's spans."""
    check_size(parts, 2)
    return spans_text(store.view(word_in(parts[1])))


def say_touched(store, parts):
    """Answer where a view is otherwise than ahead of the last deed."""
    check_size(parts, 2)
    return spans_text(store.touched(word_in(parts[1])))


def say_log(store, parts):
    """Answer the log."""
    check_size(parts, 1)
    return NOTHING if len(store) == 0 else str(store)


FORMS = {
    "tell": say_tell, "restore": say_restore, "line": say_line, "rows": say_rows, "ask": say_ask, "spans": say_spans,
    "keep": say_keep, "drop": say_drop, "view": say_view, "touched": say_touched, "log": say_log,
}


class Desk:
    """A store of the plan whose text is handed in."""

    def __init__(self, text):
        self.store = Store(read_plan(text))

    def say(self, line):
        """Answer a line of one of the desk's forms."""
        if not isinstance(line, str):
            raise NoLine()
        parts = line.split(" ")
        if parts[0] not in FORMS:
            raise NoLine()
        action = FORMS[parts[0]]
        return action(self.store, parts)
