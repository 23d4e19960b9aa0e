"""The log of deeds, and the store that comes up from it."""

from bothtimes.days import MOST
from bothtimes.errors import Broken, Early, Full, NoDeed
from bothtimes.parts import is_day_text, step_from
from bothtimes.store import Store
from bothtimes.writing import deeds_text

WORDS = ("on", "put", "cut", "end")


def log_text(deeds, *, words=WORDS):
    """Tell all deeds' rows, one behind the other; words are those with which the rows begin."""
    return deeds_text(deeds, words)


def come_up(plan, text, *, words=WORDS, most=MOST):
    """Tell a store of the deeds that are whole from the beginning of the text on, and how many signs these take."""
    store = Store(plan, most=most)
    signs = 0
    for rows in ended_rows(text, words[3]):
        deed = deed_from(rows, words)
        if deed is None or not is_taken(store, deed):
            return store, signs
        signs += count_signs(rows)
    return store, signs


def ended_rows(text, end):
    """List the rows of a log, those up to each one that begins with the last word together; what is behind is left."""
    groups = []
    rows = []
    # Behind the last line feed stands no whole row.
    for row in text.split("\n")[:-1]:
        rows.append(row)
        if row.split(" ")[0] == end:
            groups.append(rows)
            rows = []
    return groups


def deed_from(rows, words):
    """Tell the deed that these rows are, of whatever tables, spans and worths, or None."""
    first = rows[0].split(" ")
    if len(first) != 2 or first[0] != words[0] or not is_day_text(first[1]):
        return None
    signs = count_signs(rows[:-1])
    if rows[-1] != f"{words[3]} {signs}":
        return None
    steps = [step_from(row.split(" "), words[1], words[2]) for row in rows[1:-1]]
    return None if None in steps else (int(first[1]), tuple(steps))


def count_signs(rows):
    """Count the signs of these rows, a line feed behind each."""
    return sum([len(row) + 1 for row in rows])


def is_taken(store, deed):
    """Tell the deed to the store; tell whether it was not refused."""
    try:
        store.tell(deed[0], deed[1])
    except (NoDeed, Full, Early, Broken):
        return False
    return True
