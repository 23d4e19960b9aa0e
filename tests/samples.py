"""What several tests share: things of other kinds, and lines made by a fixed sort of chance."""

import random

LAST = 10 ** 12


class Odd:
    """A thing of another kind that can't be compared, counted, shown or hashed."""

    def __eq__(self, other):
        raise AssertionError("compared")

    def __lt__(self, other):
        raise AssertionError("ordered")

    __le__ = __gt__ = __ge__ = __ne__ = __lt__
    __hash__ = None

    def __len__(self):
        raise AssertionError("counted")

    def __iter__(self):
        raise AssertionError("walked")

    def __getitem__(self, at):
        raise AssertionError("indexed")

    def __bool__(self):
        raise AssertionError("tested")

    def __repr__(self):
        raise AssertionError("shown")

    __str__ = __repr__


def nested(kind, thing, depth=40):
    """Wrap a thing into as many tuples, lists or dicts."""
    for number in range(depth):
        if kind == "tuple":
            thing = (thing,)
        elif kind == "list":
            thing = [thing]
        elif kind == "dict":
            thing = {"a": thing}
        else:
            thing = (thing, thing)
    return thing


def odd_things():
    """Things of many kinds, of which none is a word, a number, a day, a line with pieces or a plan."""
    plain = [
        None, True, False, "", " ", "A", "a b", "a1", "\n", "abcdefghi", "\u00e4", b"", b"abc", bytearray(b"a"),
        [], ["a"], [1], {}, {"a": 1}, set(), {1, 2}, frozenset({1}), range(3), object(), Odd(), Odd, len, iter([]),
        1j, slice(1, 2), Ellipsis, NotImplemented, ValueError(), (lambda thing: thing), memoryview(b"a"),
    ]
    deep = [nested(kind, inner) for kind in ("tuple", "list", "dict", "both") for inner in (1, "a", None, Odd())]
    return plain + deep


def random_line(chance, days=12, worths=3):
    """A line over few days, written without the program: day by day, then joined."""
    end_open = chance.random() < 0.4
    held = [chance.choice([None] + [(number,) for number in range(worths)]) for day in range(days)]
    return line_from(held, end_open)


def line_from(held, end_open):
    """The line that has held[day] on each day, and, where its end is open, the last one on all days behind."""
    pieces = []
    for day, what in enumerate(held):
        if what is None:
            continue
        if pieces and pieces[-1][1] == day and pieces[-1][2] == what:
            pieces[-1] = (pieces[-1][0], day + 1, what)
        else:
            pieces.append((day, day + 1, what))
    if end_open and held and held[-1] is not None:
        pieces[-1] = (pieces[-1][0], None, pieces[-1][2])
    return tuple(pieces)


def on_day(line, day):
    """What a line has on a day, by a plain walk."""
    for low, high, what in line:
        if low <= day and (high is None or day < high):
            return what
    return None


def chances(many, seed):
    """As many sources of numbers, the same ones each time."""
    return [random.Random(seed * 100003 + number) for number in range(many)]


PLAN = (
    ("staff", ("team", "pay"), (("team", "team"),)),
    ("tag", (), ()),
    ("team", ("lead",), (("lead", "staff"),)),
)


def random_step(chance):
    """A step of PLAN over few days, of few keys and worths."""
    table = chance.choice(["staff", "tag", "team"])
    key = chance.choice(["a", "b"])
    low = chance.randrange(10)
    high = chance.choice([None, low + 1 + chance.randrange(5), low + 1 + chance.randrange(5)])
    if chance.random() < 0.35:
        return ("cut", table, key, low, high)
    worths = {
        "staff": (chance.choice([None, "x"]), chance.choice([None, 1, "y"])),
        "tag": (),
        "team": (chance.choice([None, "x", "y"]),),
    }
    return ("put", table, key, worths[table], low, high)


def random_deeds(chance, most=8):
    """Deeds of PLAN, on few known days, some of them on the same one."""
    day = 0
    deeds = []
    for number in range(chance.randrange(most)):
        day += chance.choice([0, 0, 1, 3])
        deeds.append((day, tuple(random_step(chance) for place in range(1 + chance.randrange(4)))))
    return tuple(deeds)


def last_told(deeds, table, key, day, known):
    """The numbers of the last step known that covers the day, and that step, by a plain walk; None without one."""
    last = None
    for at, (told, steps) in enumerate(deeds):
        for place, step in enumerate(steps):
            *named, low, high = step
            inside = low <= day and (high is None or day < high)
            if named[1:3] == [table, key] and inside and (known is None or told <= known):
                last = (at, place, step)
    return last


def worths_on(deeds, table, key, day, known):
    """What the key has on the day, as known then, by a plain walk."""
    last = last_told(deeds, table, key, day, known)
    return last[2][3] if last is not None and last[2][0] == "put" else None
