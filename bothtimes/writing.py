"""How things, steps and deeds are written."""

# The words with which a deed's rows begin: of its day, of the two sorts of steps, of its end.
ROW_WORDS = ("on", "put", "cut", "end")


def thing_text(thing):
    """Tell how a thing, or a span's end, is written."""
    return "-" if thing is None else str(thing)


def row_text(things):
    """Tell how things that stand in one row are written."""
    return " ".join([thing_text(thing) for thing in things])


def step_text(step, words):
    """Tell a step's row, without its line feed, by these first words."""
    if step[0] == "cut":
        return row_text((words[2],) + step[1:])
    form, table, key, worths, low, high = step
    return row_text((words[1], table, key, low, high) + worths)


def deed_text(deed, words):
    """Tell a deed's rows, a line feed behind each, by these first words."""
    day, steps = deed
    rows = [row_text([words[0], day])] + [step_text(step, words) for step in steps]
    text = "".join([f"{row}\n" for row in rows])
    end = row_text([words[3], len(text)])
    return f"{text}{end}\n"


def deeds_text(deeds, words):
    """Tell all deeds' rows, one behind the other, by these first words."""
    return "".join([deed_text(deed, words) for deed in deeds])
