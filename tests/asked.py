"""Questions made by a fixed sort of chance, and their rows by a plain walk, written without the program."""

from tests.samples import worths_on

# Columns of unlike tables are unlike, but for pay, so that some joins are none.
PLAN = (
    ("city", ("land", "size"), (("land", "land"),)),
    ("land", ("head", "pay"), ()),
    ("staff", ("home", "pay", "boss"), (("boss", "staff"), ("home", "city"))),
    ("tag", (), ()),
)
KEYS = ["aa", "ab", "ac", "ad"]
COLUMNS = {name: ["key"] + list(columns) for name, columns, references in PLAN}


def plain_columns(question):
    """The columns of a question of PLAN."""
    form = question[0]
    if form == "rows":
        return COLUMNS[question[1]]
    columns = plain_columns(question[1])
    if form == "join":
        return columns + COLUMNS[question[3]][1:]
    if form in ("keep", "count", "sum"):
        return list(question[2]) + {"keep": [], "count": ["many"], "sum": ["sum"]}[form]
    return columns


def plain_table(deeds, table, day, known):
    """The rows of a table that hold on a day, by key."""
    keys = {step[2] for told, steps in deeds for step in steps}
    held = {key: worths_on(deeds, table, key, day, known) for key in keys}
    return {key: worths for key, worths in held.items() if worths is not None}


def plain_rows(deeds, question, day, known=None):
    """The set of a question's rows on a day, each one a tuple."""
    form = question[0]
    if form == "rows":
        return {(key, *worths) for key, worths in plain_table(deeds, question[1], day, known).items()}
    columns = plain_columns(question[1])
    named = [dict(zip(columns, row)) for row in plain_rows(deeds, question[1], day, known)]
    if form in ("join", "lacking"):
        held = plain_table(deeds, question[3], day, known)
        if form == "join":
            return {tuple(row.values()) + held[row[question[2]]] for row in named if row[question[2]] in held}
        return {tuple(row.values()) for row in named if row[question[2]] not in held}
    if form == "where":
        return {tuple(row.values()) for row in named if row[question[2]] == question[3]}
    if form == "above":
        return {tuple(row.values()) for row in named
                if isinstance(row[question[2]], int) and row[question[2]] > question[3]}
    groups = {}
    for row in named:
        groups.setdefault(tuple(row[column] for column in question[2]), []).append(row)
    if form == "keep":
        return set(groups)
    if form == "count":
        return {group + (len(rows),) for group, rows in groups.items()}
    numbers = {group: [row[question[3]] for row in rows if isinstance(row[question[3]], int)]
               for group, rows in groups.items()}
    if form == "sum":
        return {group + (sum(numbers[group]),) for group in groups}
    return {tuple(row.values()) for group, rows in groups.items() for row in rows
            if isinstance(row[question[3]], int) and row[question[3]] == max(numbers[group])}


def in_order(rows):
    """Rows rising: None, then numbers, then words."""
    def place(thing):
        if thing is None:
            return (0,)
        return (2, thing) if isinstance(thing, str) else (1, thing)
    return tuple(sorted(rows, key=lambda row: [place(thing) for thing in row]))


def random_question(chance, deep):
    """A question of PLAN, just so deep."""
    if deep == 1:
        return ("rows", chance.choice(["city", "land", "staff", "staff", "tag"]))
    beneath = random_question(chance, deep - 1)
    columns = plain_columns(beneath)
    column = chance.choice(columns)
    some = tuple(chance.sample(columns, chance.randrange(len(columns) + 1)))
    thing = chance.choice([None, -3, 2, 7, 1] + KEYS)
    fitting = [name for name, own, references in PLAN if not set(own) & set(columns)]
    made = {
        "where": ("where", beneath, column, thing),
        "above": ("above", beneath, column, chance.choice([-4, -3, 0, 1, 2, 6])),
        "join": ("join", beneath, column, chance.choice(fitting)),
        "lacking": ("lacking", beneath, column, chance.choice(sorted(COLUMNS))),
        "keep": ("keep", beneath, some or (column,)),
        "top": ("top", beneath, some, column),
        "count": ("count", beneath, tuple(name for name in some if name != "many")),
        "sum": ("sum", beneath, tuple(name for name in some if name != "sum"), column),
    }
    return made[chance.choice(["where", "above", "join", "join", "join", "lacking", "keep", "top", "count", "sum"])]
