"""The log of deeds."""

from bothtimes.writing import deeds_text

WORDS = ("on", "put", "cut", "end")


def log_text(deeds, *, words=WORDS):
    """Tell all deeds' rows, one behind the other; words are those with which the rows begin."""
    return deeds_text(deeds, words)
