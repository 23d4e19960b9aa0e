"""Points 2 and 12: what a question is, and its columns."""

import unittest

from bothtimes.questions import columns_of, is_question
from tests.asked import PLAN as ASKED_PLAN
from tests.asked import plain_columns, random_question
from tests.samples import PLAN, Odd, chances, nested, odd_things

# PLAN has the tables staff (team, pay), tag () and team (lead).
STAFF = ("rows", "staff")
TEAM = ("rows", "team")
COUNT = ("count", STAFF, ("team",))
SUM = ("sum", STAFF, ("team",), "pay")
GOOD = (
    STAFF,
    ("where", STAFF, "team", "red"),
    ("above", STAFF, "pay", 5),
    ("join", STAFF, "team", "team"),
    ("lacking", STAFF, "team", "team"),
    ("keep", STAFF, ("pay", "key")),
    ("top", STAFF, ("team",), "pay"),
    COUNT,
    SUM,
)


def changed(parts, at, part):
    return parts[:at] + (part,) + parts[at + 1:]


def deep(many):
    """A question that is so deep."""
    question = STAFF
    for number in range(many - 1):
        question = ("where", question, "pay", number)
    return question


class Telling(unittest.TestCase):
    def accept(self, *things):
        for thing in things:
            self.assertIs(is_question(PLAN, thing), True, thing)

    def refuse(self, *things):
        for thing in things:
            self.assertIs(is_question(PLAN, thing), False)


class Forms(Telling):
    def test_right(self):
        self.accept(*GOOD)

    def test_parts_more_or_fewer(self):
        for good in GOOD:
            self.refuse(good[:-1], good + (None,), good + ("key",), good + (good[-1],), good[1:], (good,), list(good))
            self.refuse(good[:1], good + ((),))
        self.refuse((), ("rows",), ("keep", ("key",)), ("where", "team", "red"))

    def test_the_form(self):
        for good in GOOD:
            for form in ("Rows", "", "row", "select", "key", None, 0, True, b"rows", ("rows",), ["rows"], Odd()):
                self.refuse(changed(good, 0, form))
        self.refuse(("keep",) + GOOD[1][1:], ("where",) + GOOD[5][1:], ("rows", STAFF), ("join", "staff"))
        self.refuse(("sum", STAFF, ("team",)), ("count", STAFF, ("team",), "pay"), ("top", STAFF, ("team",)))

    def test_the_question_beneath(self):
        for good in GOOD[1:]:
            for beneath in ("staff", (), None, 0, True, [], list(STAFF), ("rows", "none"), ("rows",), (STAFF,), TEAM[:1],
                            ("rows", "staff", "team"), Odd(), {}):
                self.refuse(changed(good, 1, beneath))
            self.refuse(changed(good, 1, TEAM))
            self.accept(changed(good, 1, ("where", STAFF, "key", "ann")))

    def test_tables(self):
        self.accept(("rows", "tag"), TEAM)
        for name in ("none", "", "Staff", "abcdefghi", None, 0, True, ("staff",), ["staff"], STAFF, Odd()):
            self.refuse(("rows", name), ("join", STAFF, "team", name), ("lacking", STAFF, "team", name))

    def test_columns(self):
        for good in (GOOD[1], GOOD[2], GOOD[3], GOOD[4]):
            for column in ("key", "team", "pay"):
                self.accept(changed(good, 2, column))
            for column in ("lead", "none", "", "many", "sum", "Team", None, 0, True, ("team",), ["team"], Odd()):
                self.refuse(changed(good, 2, column))
        for good in (GOOD[6], GOOD[8]):
            for column in ("key", "team", "pay"):
                self.accept(changed(good, 3, column))
            for column in ("lead", "none", "", "many", "sum", None, 0, True, ("pay",), ["pay"], (), Odd()):
                self.refuse(changed(good, 3, column))

    def test_tuples_of_columns(self):
        for good in GOOD[5:]:
            for columns in (("key",), ("pay", "team", "key"), ("team", "key")):
                self.accept(changed(good, 2, columns))
            for columns in (("lead",), ("key", "none"), ("key", "key"), ("key", "pay", "key"), "key", "", None, 0, True,
                            ["key"], [], {}, (("key",),), ("key", None), ("key", 1), ("key", ""), Odd(), ("key", Odd()),
                            ("many",), ("sum",), ("pay", "team", "key", "key")):
                self.refuse(changed(good, 2, columns))

    def test_no_columns(self):
        self.refuse(("keep", STAFF, ()))
        self.accept(("top", STAFF, (), "pay"), ("count", STAFF, ()), ("sum", STAFF, (), "pay"))

    def test_a_column_of_top_and_sum_may_be_one_of_the_columns(self):
        self.accept(("top", STAFF, ("pay",), "pay"), ("sum", STAFF, ("pay",), "pay"))

    def test_things(self):
        for thing in (None, 0, -5, 10 ** 18, "a", "abcdefgh", "key"):
            self.accept(("where", STAFF, "pay", thing))
        for thing in (True, False, "", "A", "abcdefghi", "a b", (), (1,), ("a",), [], [1], {}, b"a", Odd()):
            self.refuse(("where", STAFF, "pay", thing))

    def test_numbers(self):
        for number in (0, -5, 10 ** 18):
            self.accept(("above", STAFF, "pay", number))
        for number in (True, False, None, "a", "", "5", (), (1,), [1], {}, Odd()):
            self.refuse(("above", STAFF, "pay", number))

    def test_many_and_sum(self):
        self.refuse(("count", COUNT, ("many",)), ("count", COUNT, ("team", "many")))
        self.refuse(("sum", SUM, ("sum",), "team"), ("sum", SUM, ("team", "sum"), "sum"))
        self.accept(("count", SUM, ("sum",)), ("count", COUNT, ("team",)), ("sum", COUNT, ("many",), "many"))
        self.accept(("sum", SUM, (), "sum"), ("sum", SUM, ("team",), "sum"), ("sum", COUNT, ("team", "many"), "many"))
        for beneath, column in ((COUNT, "many"), (SUM, "sum")):
            self.accept(("where", beneath, column, 2), ("above", beneath, column, 2), ("keep", beneath, (column,)),
                        ("top", beneath, ("team",), column), ("top", beneath, (column,), "team"),
                        ("join", beneath, column, "team"), ("lacking", beneath, column, "team"))
        self.refuse(("where", COUNT, "sum", 2), ("where", SUM, "many", 2), ("where", COUNT, "key", 2),
                    ("keep", COUNT, ("pay",)), ("where", SUM, "pay", 2))
        both = ("sum", COUNT, ("many",), "many")
        self.accept(("keep", both, ("sum", "many")), ("count", ("keep", both, ("sum",)), ("sum",)))
        self.refuse(("sum", both, ("sum",), "many"), ("count", both, ("many",)))

    def test_joins(self):
        joined = ("join", STAFF, "team", "team")
        self.accept(("where", joined, "lead", None), ("join", joined, "lead", "tag"), ("join", STAFF, "pay", "team"))
        self.refuse(("join", joined, "lead", "team"), ("join", joined, "lead", "staff"), ("join", STAFF, "key", "staff"))
        self.accept(("join", ("keep", STAFF, ("key",)), "key", "staff"), ("join", STAFF, "key", "tag"),
                    ("join", ("join", STAFF, "key", "tag"), "key", "tag"), ("lacking", joined, "lead", "staff"))
        self.refuse(("join", ("keep", STAFF, ("key", "pay")), "key", "staff"), ("where", STAFF, "lead", None))
        self.accept(("join", COUNT, "team", "team"))
        self.refuse(("join", COUNT, "team", "staff"))

    def test_how_deep(self):
        for many in range(1, 7):
            self.accept(deep(many))
        for many in (7, 8, 20, 40):
            self.refuse(deep(many))
        for good in GOOD[1:]:
            self.accept(changed(good, 1, deep(5)))
            self.refuse(changed(good, 1, deep(6)))


class Anything(Telling):
    def test_things_of_other_kinds(self):
        for thing in odd_things():
            self.refuse(thing, (thing,), ("rows", thing), ("rows", "staff", thing), (thing, "staff"), (thing,) * 3)
            for good in GOOD:
                for at in range(len(good)):
                    if thing is not None or (good[0], at) != ("where", 3):
                        self.refuse(changed(good, at, thing))
            for form in ("keep", "count"):
                self.refuse((form, STAFF, (thing,)), (form, STAFF, ("key", thing)))
            for form in ("top", "sum"):
                self.refuse((form, STAFF, (thing,), "pay"), (form, STAFF, ("key", thing), "pay"))

    def test_nested(self):
        for many in range(1, 41):
            for kind in ("tuple", "list", "dict", "both"):
                for inner in (STAFF, GOOD[5], "a", 5, None, Odd()):
                    thing = nested(kind, inner, many)
                    self.refuse(thing, ("where", thing, "team", "red"), ("rows", thing), ("keep", STAFF, (thing,)),
                                ("where", STAFF, "pay", thing), ("above", STAFF, "pay", thing), ("keep", STAFF, thing))

    def test_no_plan_has_questions(self):
        for thing in odd_things() + [(), [PLAN], list(PLAN)]:
            for good in GOOD:
                self.assertIs(is_question(thing, good), False)

    def test_another_plan(self):
        self.assertIs(is_question((("tag", (), ()),), ("rows", "tag")), True)
        self.assertIs(is_question((("tag", (), ()),), STAFF), False)

    def test_random_ones(self):
        for chance in chances(300, 60):
            question = random_question(chance, 1 + chance.randrange(6))
            self.assertIs(is_question(ASKED_PLAN, question), True, question)


class Columns(unittest.TestCase):
    def check(self, question, *columns):
        self.assertIs(is_question(PLAN, question), True)
        self.assertEqual(columns_of(PLAN, question), columns)

    def test_each_form(self):
        own = ("key", "team", "pay")
        self.check(STAFF, *own)
        self.check(("rows", "tag"), "key")
        self.check(("where", STAFF, "team", "red"), *own)
        self.check(("above", STAFF, "pay", 5), *own)
        self.check(("join", STAFF, "team", "team"), "key", "team", "pay", "lead")
        self.check(("join", STAFF, "team", "tag"), *own)
        self.check(("lacking", STAFF, "team", "team"), *own)
        self.check(("keep", STAFF, ("pay", "key")), "pay", "key")
        self.check(("keep", STAFF, ("key",)), "key")
        self.check(("top", STAFF, ("team",), "pay"), *own)
        self.check(COUNT, "team", "many")
        self.check(("count", STAFF, ()), "many")
        self.check(("count", STAFF, ("pay", "team")), "pay", "team", "many")
        self.check(SUM, "team", "sum")
        self.check(("sum", STAFF, (), "pay"), "sum")
        self.check(("sum", SUM, (), "sum"), "sum")
        self.check(("sum", COUNT, ("many", "team"), "many"), "many", "team", "sum")

    def test_six_deep(self):
        self.check(deep(6), "key", "team", "pay")
        self.check(("join", ("keep", ("join", ("keep", ("above", STAFF, "pay", 1), ("team", "key")), "team", "team"),
                             ("lead", "key")), "lead", "staff"), "lead", "key", "team", "pay")

    def test_a_plan_of_four_columns(self):
        plan = (("ta", ("d", "b", "c", "a"), ()), ("tb", ("h", "g", "f", "e"), ()))
        question = ("join", ("rows", "tb"), "g", "ta")
        self.assertEqual(columns_of(plan, question), ("key", "h", "g", "f", "e", "d", "b", "c", "a"))
        self.assertIsInstance(columns_of(plan, question), tuple)

    def test_random_ones(self):
        for chance in chances(300, 61):
            question = random_question(chance, 1 + chance.randrange(6))
            self.assertEqual(columns_of(ASKED_PLAN, question), tuple(plain_columns(question)))


if __name__ == "__main__":
    unittest.main()
