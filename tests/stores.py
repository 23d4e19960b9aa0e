"""Stores by plain walks over few days, written without the program, and deeds for them made by a fixed sort of chance."""

from bothtimes import errors
from tests.samples import line_from, plain_broken, random_row_step, worths_on

PLAN = (
    ("city", ("land",), ()),
    ("staff", ("home", "pay", "boss"), (("boss", "staff"), ("home", "city"))),
    ("tag", (), ()),
)
KEYS = ["aa", "ab", "ac"]
PLACES = [(table, key) for table in ("city", "staff", "tag") for key in KEYS]
# The last of these days stands for all behind it.
DAYS = 24
REFUSALS = tuple(thing for thing in vars(errors).values() if isinstance(thing, type) and issubclass(thing, Exception))


def put(table, key, worths=(), low=0, high=None):
    return ("put", table, key, worths, low, high)


def cut(table, key, low=0, high=None):
    return ("cut", table, key, low, high)


def city(key="ulm", low=0, high=None, land=None):
    return put("city", key, (land,), low, high)


def staff(key="ann", low=0, high=None, pay=5, home=None, boss=None):
    return put("staff", key, (home, pay, boss), low, high)


def outcome(ask, *given, **named):
    """What is told, or the name and the values of the refusal."""
    try:
        return ask(*given, **named)
    except REFUSALS as refusal:
        return (type(refusal).__name__, vars(refusal))


def held_on(deeds, table, key):
    """What the key has on each day."""
    return [worths_on(deeds, table, key, day, None) for day in range(DAYS)]


def patch_from(ahead, behind):
    """The patch from what some deeds come to to what others do."""
    pieces = []
    for table, key in PLACES:
        held = [None if here == there else (here, there)
                for here, there in zip(held_on(ahead, table, key), held_on(behind, table, key))]
        pieces += [(table, key, low, high) + what for low, high, what in line_from(held, True)]
    return tuple(pieces)


def steps_restored(deeds, table, key, known, low, high):
    """The steps of a restore, by a walk: one for each longest row of days alike."""
    rows = []
    for day in range(low, DAYS if high is None else high):
        worths = worths_on(deeds, table, key, day, known)
        if rows and rows[-1][2] == worths:
            rows[-1] = (rows[-1][0], day + 1, worths)
        else:
            rows.append((day, day + 1, worths))
    if high is None:
        rows[-1] = (rows[-1][0], None, rows[-1][2])
    return steps_from((table, key, first, last, None, worths) for first, last, worths in rows)


def steps_from(pieces):
    """The steps that put or cut what a patch has behind."""
    return tuple(cut(table, key, low, high) if behind is None else put(table, key, behind, low, high)
                 for table, key, low, high, ahead, behind in pieces)


def no_fit(deeds, pieces):
    """The least (table, key, day) at which a patch doesn't find what it has ahead, or None."""
    return min(((table, key, day) for table, key, low, high, ahead, behind in pieces
                for day in range(low, DAYS if high is None else high)
                if worths_on(deeds, table, key, day, None) != ahead), default=None)


class Plain:
    """A store that walks; what it is told are deeds of PLAN."""

    def __init__(self, most=60):
        self.most = most
        self.deeds = ()

    def tell(self, day, steps, misfit=None):
        if len(self.deeds) >= self.most:
            return ("Full", {"most": self.most})
        if self.deeds and day < self.deeds[-1][0]:
            return ("Early", {"last": self.deeds[-1][0]})
        if misfit is not None:
            return ("NoFit", dict(zip(("table", "key", "day"), misfit)))
        ahead = self.deeds
        behind = ahead + ((day, steps),)
        place = plain_broken(PLAN, behind, None, range(DAYS))
        if place is not None:
            return ("Broken", dict(zip(("day", "table", "key", "column"), place)))
        self.deeds = behind
        return patch_from(ahead, behind)

    def restore(self, day, table, key, *, known, low=0, high=None):
        return self.tell(day, steps_restored(self.deeds, table, key, known, low, high))

    def correct(self, day, patch):
        return self.tell(day, steps_from(patch), no_fit(self.deeds, patch))


def random_steps(chance, most=3):
    """The steps of one deed of PLAN."""
    return tuple(random_row_step(chance, PLAN, KEYS, cuts=0.15) for place in range(1 + chance.randrange(most)))


def all_rows(plan, keys):
    """The steps that put a row of each key in each table, on all days, so that references to them hold."""
    return tuple(put(table, key, (None,) * len(columns)) for table, columns, references in plan for key in keys)


def random_span(chance):
    low = chance.randrange(12)
    return {"low": low, "high": chance.choice([None, low + 1 + chance.randrange(8)])}


def next_day(chance, deeds):
    """A day for one deed more, seldom too early."""
    return max(0, (deeds[-1][0] if deeds else 2) + chance.choice([0, 0, 1, 3, 1, -1]))


def tell_some(chance, store, many=8):
    """Tell a store as many deeds as stand, all of which can be walked."""
    for number in range(many):
        outcome(store.tell, next_day(chance, store.deeds()), random_steps(chance))
    return store
