"""The refusals. Messages hold no value that may be anything: showing it could fail."""


class NoDeed(ValueError):
    """No deed comes of what was handed in."""

    def __init__(self):
        ValueError.__init__(self, "no deed comes of this")


class NoQuestion(ValueError):
    """A view's name or question is none."""

    def __init__(self):
        ValueError.__init__(self, "no name or no question")


class NoLine(ValueError):
    """A line said to a desk is of none of its forms."""

    def __init__(self):
        ValueError.__init__(self, "no line of this form")


class Busy(RuntimeError):
    """A store is asked for a change while it tells several deeds."""

    def __init__(self):
        RuntimeError.__init__(self, "deeds are being told")


class Full(OverflowError):
    """A store has as many deeds as it takes."""

    def __init__(self, most):
        OverflowError.__init__(self, f"no more than {most} deeds")
        self.most = most


class Early(ValueError):
    """A deed's day is below the last deed's."""

    def __init__(self, last):
        ValueError.__init__(self, f"the last deed is of day {last}")
        self.last = last


class Broken(LookupError):
    """A reference would break: the least one."""

    def __init__(self, day, table, key, column):
        LookupError.__init__(self, f"on day {day} {column} of {table} {key} would refer to nothing")
        self.day = day
        self.table = table
        self.key = key
        self.column = column


class NoFit(ArithmeticError):
    """What a patch has ahead is not what it finds: the least place."""

    def __init__(self, table, key, day):
        ArithmeticError.__init__(self, f"on day {day} {table} {key} is otherwise")
        self.table = table
        self.key = key
        self.day = day


class Clash(RuntimeError):
    """Two stores have changed one place in unlike ways: the least one."""

    def __init__(self, table, key, day):
        RuntimeError.__init__(self, f"on day {day} {table} {key} is changed in two ways")
        self.table = table
        self.key = key
        self.day = day


class Unlike(TypeError):
    """Two stores have unlike plans."""

    def __init__(self):
        TypeError.__init__(self, "the stores have unlike plans")


class NoTable(KeyError):
    """What was handed in names no table."""

    def __init__(self, name):
        KeyError.__init__(self, "no such table")
        self.name = name


class NoView(KeyError):
    """What was handed in names no view."""

    def __init__(self, name):
        KeyError.__init__(self, "no such view")
        self.name = name


class Twice(ValueError):
    """A view of this name is kept already."""

    def __init__(self, name):
        ValueError.__init__(self, "a view of this name is kept already")
        self.name = name


class NoText(ValueError):
    """A text is of no form that is read: the number of its first wrong row or part."""

    def __init__(self, row):
        ValueError.__init__(self, f"row {row} is wrong")
        self.row = row
