"""The order in which things and rows rise."""


def rising(rows):
    """List rows, tuples of things, rising, each once."""
    return sorted(list({row: True for row in rows}), key=row_order)


def row_order(row):
    """Tell what sorts rows: thing by thing, a beginning ahead of what goes on."""
    return tuple([thing_order(thing) for thing in row])


def thing_order(thing):
    """Tell what sorts things: None, then numbers by size, then words."""
    if thing is None:
        return (0, 0, "")
    if isinstance(thing, int):
        return (1, thing, "")
    return (2, 0, thing)
