"""What a question has on one day."""

from bothtimes.asking import held_at, rows_of
from bothtimes.order import rising


def answer(plan, deeds, question, day, *, known=None):
    """Tell the question's rows on the day, rising, as known on a day, or by all deeds."""
    return tuple(rising(rows_of(plan, question, held_at(deeds, question, day, known))))
