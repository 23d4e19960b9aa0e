"""What several tests share: things of other kinds, and lines made by a fixed sort of chance."""

import random

LAST = 10 ** 12


class Odd:
    """A thing of another kind that can't be compared, counted, shown or hashed."""

    def __eq__(self, other):
        raise AssertionError("compared")

    def __lt__(self, other):
        raise AssertionError("ordered")

    __le__ = __gt__ = __ge__ = __ne__ = __lt__
    __hash__ = None

    def __len__(self):
        raise AssertionError("counted")

    def __iter__(self):
        raise AssertionError("walked")

    def __getitem__(self, at):
        raise AssertionError("indexed")

    def __bool__(self):
        raise AssertionError("tested")

    def __repr__(self):
        raise AssertionError("shown")

    __str__ = __repr__


def nested(kind, thing, depth=40):
    """Wrap a thing into as many tuples, lists or dicts."""
    for number in range(depth):
        if kind == "tuple":
            thing = (thing,)
        elif kind == "list":
            thing = [thing]
        elif kind == "dict":
            thing = {"a": thing}
        else:
            thing = (thing, thing)
    return thing


def odd_things():
    """Things of many kinds, of which none is a word, a number, a day, a line with pieces or a plan."""
    plain = [
        None, True, False, "", " ", "A", "a b", "a1", "\n", "abcdefghi", "\u00e4", b"", b"abc", bytearray(b"a"),
        [], ["a"], [1], {}, {"a": 1}, set(), {1, 2}, frozenset({1}), range(3), object(), Odd(), Odd, len, iter([]),
        1j, slice(1, 2), Ellipsis, NotImplemented, ValueError(), (lambda thing: thing), memoryview(b"a"),
    ]
    deep = [nested(kind, inner) for kind in ("tuple", "list", "dict", "both") for inner in (1, "a", None, Odd())]
    return plain + deep


def random_line(chance, days=12, worths=3):
    """A line over few days, written without the program: day by day, then joined."""
    end_open = chance.random() < 0.4
    held = [chance.choice([None] + [(number,) for number in range(worths)]) for day in range(days)]
    return line_from(held, end_open)


def line_from(held, end_open):
    """The line that has held[day] on each day, and, where its end is open, the last one on all days behind."""
    pieces = []
    for day, what in enumerate(held):
        if what is None:
            continue
        if pieces and pieces[-1][1] == day and pieces[-1][2] == what:
            pieces[-1] = (pieces[-1][0], day + 1, what)
        else:
            pieces.append((day, day + 1, what))
    if end_open and held and held[-1] is not None:
        pieces[-1] = (pieces[-1][0], None, pieces[-1][2])
    return tuple(pieces)


def on_day(line, day):
    """What a line has on a day, by a plain walk."""
    for low, high, what in line:
        if low <= day and (high is None or day < high):
            return what
    return None


def chances(many, seed):
    """As many sources of numbers, the same ones each time."""
    return [random.Random(seed * 100003 + number) for number in range(many)]


PLAN = (
    ("staff", ("team", "pay"), (("team", "team"),)),
    ("tag", (), ()),
    ("team", ("lead",), (("lead", "staff"),)),
)


def random_step(chance):
    """A step of PLAN over few days, of few keys and worths."""
    table = chance.choice(["staff", "tag", "team"])
    key = chance.choice(["a", "b"])
    low = chance.randrange(10)
    high = chance.choice([None, low + 1 + chance.randrange(5), low + 1 + chance.randrange(5)])
    if chance.random() < 0.35:
        return ("cut", table, key, low, high)
    worths = {
        "staff": (chance.choice([None, "x"]), chance.choice([None, 1, "y"])),
        "tag": (),
        "team": (chance.choice([None, "x", "y"]),),
    }
    return ("put", table, key, worths[table], low, high)


def random_deeds(chance, most=8):
    """Deeds of PLAN, on few known days, some of them on the same one."""
    day = 0
    deeds = []
    for number in range(chance.randrange(most)):
        day += chance.choice([0, 0, 1, 3])
        deeds.append((day, tuple(random_step(chance) for place in range(1 + chance.randrange(4)))))
    return tuple(deeds)


def last_told(deeds, table, key, day, known):
    """The numbers of the last step known that covers the day, and that step, by a plain walk; None without one."""
    last = None
    for at, (told, steps) in enumerate(deeds):
        for place, step in enumerate(steps):
            *named, low, high = step
            inside = low <= day and (high is None or day < high)
            if named[1:3] == [table, key] and inside and (known is None or told <= known):
                last = (at, place, step)
    return last


def worths_on(deeds, table, key, day, known):
    """What the key has on the day, as known then, by a plain walk."""
    last = last_told(deeds, table, key, day, known)
    return last[2][3] if last is not None and last[2][0] == "put" else None


def plain_broken(plan, deeds, known, days):
    """The least break by a walk over all days told."""
    keys = sorted({step[2] for day, steps in deeds for step in steps})
    for day in days:
        held = {(table[0], key): worths_on(deeds, table[0], key, day, known) for table in plan for key in keys}
        for table, columns, references in plan:
            for key in keys:
                for column, target in references:
                    worths = held[table, key]
                    word = None if worths is None else worths[columns.index(column)]
                    if word is not None and held.get((target, word)) is None:
                        return (day, table, key, column)
    return None


def words(many):
    """As many unlike words, rising."""
    return ["abcdefghijklmnopqrstuvwxyz"[number // 26] + "abcdefghijklmnopqrstuvwxyz"[number % 26]
            for number in range(many)]


def ring(many, columns=("to",)):
    """A plan of tables of which each refers, by all these columns, to the next one, the last to the first."""
    names = ["ta", "tb", "tc", "td", "te", "tf"][:many]
    return tuple((name, columns, tuple((column, names[(at + 1) % many]) for column in sorted(columns)))
                 for at, name in enumerate(names))


def random_row_step(chance, plan, keys, days=10, cuts=0.2):
    """A step of any plan over few days: words in its columns are mostly keys."""
    table, columns, references = chance.choice(plan)
    key = chance.choice(keys)
    low = chance.choice([0, 0, chance.randrange(days)])
    high = chance.choice([None, None, low + 1 + chance.randrange(days)])
    if chance.random() < cuts:
        return ("cut", table, key, low, high)
    referring = [column for column, target in references]
    worths = tuple(chance.choice([None] + keys) if column in referring else chance.choice([None, -3, 2, 7] + keys[:2])
                   for column in columns)
    return ("put", table, key, worths, low, high)


def random_deeds_of(chance, plan, keys, deeds=6, steps=4, cuts=0.2):
    """As many deeds of any plan on few known days, some of them on the same one."""
    day = 0
    told = []
    for number in range(deeds):
        day += chance.choice([0, 1, 3])
        told.append((day, tuple(random_row_step(chance, plan, keys, cuts=cuts)
                                for place in range(1 + chance.randrange(steps)))))
    return tuple(told)


def plain_painting(steps, days=21):
    """What steps of few days come to, day by day; the last day stands for all behind it."""
    pieces = []
    for table, key in sorted({step[1:3] for step in steps}):
        told = [last_told(((0, steps),), table, key, day, None) for day in range(days)]
        held = [None if last is None else last[2][:1] + last[2][3:-2] for last in told]
        pieces += [(table, key, low, high, what[1] if what[0] == "put" else None)
                   for low, high, what in line_from(held, True)]
    return tuple(pieces)


def far(deeds, factor=10 ** 10):
    """The same deeds with all days so many times as far."""
    def later(day):
        return None if day is None else day * factor
    return tuple((day * factor, tuple(step[:-2] + (later(step[-2]), later(step[-1])) for step in steps))
                 for day, steps in deeds)


def full_deeds(plan=None):
    """Sixty deeds of two hundred steps in all, of far days, that follow one another closely."""
    plan = PLAN if plan is None else plan
    chance = random.Random(77)
    deeds = []
    for number, many in enumerate([4] * 20 + [3] * 40):
        steps = tuple(random_row_step(chance, plan, words(8), days=90, cuts=0.1) for place in range(many))
        deeds.append((number // 2, steps))
    return far(tuple(deeds), 10 ** 9)
