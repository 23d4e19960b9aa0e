"""Points 4 (b), 4 (e) and 13: from when to when a question has its rows."""

import time
import unittest

from bothtimes.answers import answer
from bothtimes.questions import is_question
from bothtimes.spans import knowns, spans
from tests.asked import KEYS, PLAN, in_order, random_question
from tests.samples import LAST, chances, far, full_deeds, line_from, random_deeds_of, random_row_step

STAFF = ("rows", "staff")
DAYS = 24


def put(table, key, worths, low=0, high=None):
    return ("put", table, key, worths, low, high)


def cut(table, key, low=0, high=None):
    return ("cut", table, key, low, high)


def staff(key, low=0, high=None, pay=5, home=None):
    return put("staff", key, (home, pay, None), low, high)


def walked(answers):
    """The fewest spans of each row, of answers of one day each; the last one stands for all days behind it."""
    rows = in_order({row for rows in answers for row in rows})
    held = [(row, line_from([1 if row in rows else None for rows in answers], True)) for row in rows]
    return tuple((row, low, high) for row, line in held for low, high, one in line)


class Spans(unittest.TestCase):
    def check(self, question, steps, *due):
        self.assertTrue(is_question(PLAN, question))
        self.assertEqual(spans(PLAN, ((0, tuple(steps)),), question), due)

    def test_rows(self):
        ann = ("ann", None, 5, None)
        bob = ("bob", None, 5, None)
        self.check(STAFF, [staff("ann", 3, 9)], (ann, 3, 9))
        self.check(STAFF, [staff("ann")], (ann, 0, None))
        self.check(STAFF, [staff("bob", 2, 4), staff("ann", 3, 9)], (ann, 3, 9), (bob, 2, 4))
        self.check(STAFF, [staff("ann"), staff("ann", 4, 6, pay=2)], (("ann", None, 2, None), 4, 6), (ann, 0, 4),
                   (ann, 6, None))
        self.check(STAFF, [cut("staff", "ann", 4, 6)])

    def test_rows_that_come_back(self):
        ann = ("ann", None, 5, None)
        self.check(STAFF, [staff("ann", 0, 20), cut("staff", "ann", 4, 6), cut("staff", "ann", 8, 9)],
                   (ann, 0, 4), (ann, 6, 8), (ann, 9, 20))
        self.check(STAFF, [staff("ann", 0, 3), staff("ann", 8)], (ann, 0, 3), (ann, 8, None))

    def test_fewest(self):
        kept = ("keep", STAFF, ("pay",))
        self.check(kept, [staff("ann", 0, 4), staff("bob", 4, 9), staff("cyd", 9)], ((5,), 0, None))
        self.check(kept, [staff("ann", 0, 4), staff("bob", 2, 9), staff("cyd", 11)], ((5,), 0, 9), ((5,), 11, None))
        self.check(("count", STAFF, ()), [staff("ann", 0, 4), staff("bob", 4, 9)], ((1,), 0, 9))
        self.check(("count", STAFF, ()), [staff("ann", 0, 4), staff("bob", 2, 9)], ((1,), 0, 2), ((1,), 4, 9), ((2,), 2, 4))
        self.check(("keep", STAFF, ("key",)), [staff("ann", 0, 4), staff("ann", 4, 9, pay=2)], (("ann",), 0, 9))

    def test_of_two_tables(self):
        city = put("city", "ulm", (None, 1), 3, 6)
        ann = ("ann", "ulm", 5, None)
        self.check(("join", STAFF, "home", "city"), [staff("ann", 1, 9, home="ulm"), city], (ann + (None, 1), 3, 6))
        self.check(("lacking", STAFF, "home", "city"), [staff("ann", 1, 9, home="ulm"), city], (ann, 1, 3), (ann, 6, 9))
        self.check(("lacking", STAFF, "home", "city"), [city])
        self.check(("rows", "city"), [staff("ann", 1, 9, home="ulm"), city], (("ulm", None, 1), 3, 6))

    def test_rising_by_row_then_low(self):
        steps = [staff("a", 4, 6, pay="x"), staff("b", 0, 2, pay=7), staff("c", 8, 9, pay=None), staff("d", 4, 5, pay=-2),
                 staff("e", 2, 3, pay="b"), staff("f", 9, 10, pay="x"), staff("g", 1, 2, pay="x"), staff("h", 5, 6, pay=10)]
        self.check(("keep", STAFF, ("pay",)), steps, ((None,), 8, 9), ((-2,), 4, 5), ((7,), 0, 2), ((10,), 5, 6),
                   (("b",), 2, 3), (("x",), 1, 2), (("x",), 4, 6), (("x",), 9, 10))

    def test_far_days(self):
        ann = ("ann", None, 5, None)
        self.check(STAFF, [staff("ann", LAST)], (ann, LAST, None))
        self.check(STAFF, [staff("ann", LAST - 1, LAST)], (ann, LAST - 1, LAST))
        self.check(("count", STAFF, ()), [staff("ann", 0, LAST), staff("bob", 7)], ((1,), 0, 7), ((1,), LAST, None),
                   ((2,), 7, LAST))

    def test_known(self):
        deeds = ((4, (staff("ann", 3, 9),)), (6, (cut("staff", "ann", 5, 6),)), (6, (cut("staff", "ann", 3, 4),)),
                 (8, (staff("ann", 0, 1),)))
        ann = ("ann", None, 5, None)
        on_four = ((ann, 3, 9),)
        on_six = ((ann, 4, 5), (ann, 6, 9))
        for known, due in ((0, ()), (3, ()), (4, on_four), (5, on_four), (6, on_six), (7, on_six)):
            self.assertEqual(spans(PLAN, deeds, STAFF, known=known), due)
        for known in (8, LAST, None):
            self.assertEqual(spans(PLAN, deeds, STAFF, known=known), ((ann, 0, 1),) + on_six)
        self.assertEqual(spans(PLAN, deeds, STAFF), ((ann, 0, 1),) + on_six)
        self.assertEqual(spans(PLAN, (), STAFF), ())
        self.assertRaises(TypeError, spans, PLAN, deeds, STAFF, 5)

    def test_by_a_walk_day_by_day(self):
        for chance in chances(120, 80):
            deeds = random_deeds_of(chance, PLAN, KEYS, 6, 5, 0.1)
            question = random_question(chance, 1 + chance.randrange(6))
            for known in (None, 1, 4):
                answers = [answer(PLAN, deeds, question, day, known=known) for day in range(DAYS)]
                self.assertEqual(spans(PLAN, deeds, question, known=known), walked(answers))

    def test_far_days_tell_the_same(self):
        for chance in chances(40, 81):
            deeds = random_deeds_of(chance, PLAN, KEYS, 6, 5, 0.1)
            question = random_question(chance, 1 + chance.randrange(6))
            due = tuple((row, low * 10 ** 10, None if high is None else high * 10 ** 10)
                        for row, low, high in spans(PLAN, deeds, question))
            self.assertEqual(spans(PLAN, far(deeds), question), due)

    def test_what_was_known_stays_so(self):
        for chance in chances(30, 82):
            deeds = random_deeds_of(chance, PLAN, KEYS, 6, 5, 0.1)
            last = deeds[-1][0]
            more = deeds + tuple((last + 1 + number, (random_row_step(chance, PLAN, KEYS),)) for number in range(4))
            question = random_question(chance, 1 + chance.randrange(6))
            for known in range(last + 1):
                self.assertEqual(spans(PLAN, more, question, known=known), spans(PLAN, deeds, question, known=known))


class Knowns(unittest.TestCase):
    DEEDS = (
        (4, (staff("ann", 3, 9),)),
        (6, (staff("bob", 3, 9), staff("ann", 3, 9, pay=7))),
        (6, (staff("ann", 3, 9),)),
        (8, (cut("staff", "ann", 5, 6),)),
        (11, (cut("staff", "bob"), staff("ann"))),
    )

    def check(self, question, day, *due):
        self.assertEqual(knowns(PLAN, self.DEEDS, question, day), due)

    def test_known_days(self):
        ann = ("ann", None, 5, None)
        bob = ("bob", None, 5, None)
        self.check(STAFF, 3, (ann, 4, None), (bob, 6, 11))
        self.check(STAFF, 5, (ann, 4, 8), (ann, 11, None), (bob, 6, 11))
        self.check(STAFF, 0, (ann, 11, None))
        self.check(STAFF, LAST, (ann, 11, None))
        self.check(("count", STAFF, ()), 5, ((1,), 4, 6), ((1,), 8, None), ((2,), 6, 8))
        self.check(("count", STAFF, ()), 4, ((1,), 4, 6), ((1,), 11, None), ((2,), 6, 11))
        self.check(("keep", STAFF, ("pay",)), 5, ((5,), 4, None))
        self.check(("where", STAFF, "pay", 7), 5)

    def test_no_deeds(self):
        self.assertEqual(knowns(PLAN, (), STAFF, 5), ())

    def test_far_known_days(self):
        deeds = ((LAST - 1, (staff("ann"),)), (LAST, (cut("staff", "ann"), staff("bob"))))
        self.assertEqual(knowns(PLAN, deeds, ("keep", STAFF, ("key",)), 5),
                         ((("ann",), LAST - 1, LAST), (("bob",), LAST, None)))

    def test_by_a_walk_known_day_by_known_day(self):
        for chance in chances(120, 83):
            deeds = random_deeds_of(chance, PLAN, KEYS, 8, 5, 0.2)
            question = random_question(chance, 1 + chance.randrange(6))
            for day in (0, 3, 8, 40):
                answers = [answer(PLAN, deeds, question, day, known=known) for known in range(deeds[-1][0] + 3)]
                self.assertEqual(knowns(PLAN, deeds, question, day), walked(answers))

    def test_what_was_known_stays_so(self):
        for chance in chances(40, 84):
            deeds = random_deeds_of(chance, PLAN, KEYS, 6, 5, 0.1)
            last = deeds[-1][0]
            more = deeds + ((last + 3, (random_row_step(chance, PLAN, KEYS),)),)
            question = random_question(chance, 1 + chance.randrange(6))

            def up_to_last(told):
                return [(row, low, None if high is None or high > last else high)
                        for row, low, high in told if low <= last]
            self.assertEqual(up_to_last(knowns(PLAN, more, question, 4)), up_to_last(knowns(PLAN, deeds, question, 4)))


class Soon(unittest.TestCase):
    """No day is walked by itself: these would never end otherwise."""

    QUESTIONS = (
        STAFF,
        ("count", ("join", ("lacking", STAFF, "boss", "tag"), "home", "city"), ("land",)),
        ("sum", ("join", ("join", ("keep", STAFF, ("key", "home")), "home", "city"), "land", "land"), ("head",), "pay"),
        ("above", ("count", ("top", ("keep", STAFF, ("home", "pay", "boss")), ("home",), "pay"), ("boss",)), "many", 0),
    )

    def test_sixty_deeds_of_far_days(self):
        deeds = full_deeds(PLAN)
        began = time.process_time()
        for question in self.QUESTIONS:
            self.assertTrue(is_question(PLAN, question))
            told = spans(PLAN, deeds, question)
            known = knowns(PLAN, deeds, question, LAST // 50)
            for low in {low for row, low, high in told}:
                rows = answer(PLAN, deeds, question, low)
                self.assertEqual(rows, tuple(row for row, first, last in told
                                             if first <= low and (last is None or low < last)))
            self.assertTrue(told and known)
        self.assertLess(time.process_time() - began, 20)

    def test_two_hundred_keys(self):
        steps = tuple(staff(first + second, number * 10 ** 9, LAST - number * 10 ** 9, pay=number)
                      for number, (first, second) in enumerate([(a, b) for a in "abcdefghijklmnopqrst" for b in "abcdefghij"]))
        deeds = tuple((number, steps[number * 4:number * 4 + 4]) for number in range(50))
        question = ("top", ("where", ("lacking", ("above", ("keep", STAFF, ("key", "pay")), "pay", 3), "pay", "city"),
                            "key", "tj"), ("key",), "pay")
        began = time.process_time()
        self.assertEqual(spans(PLAN, deeds, question), ((("tj", 199), 199 * 10 ** 9, LAST - 199 * 10 ** 9),))
        self.assertEqual(len(spans(PLAN, deeds, ("count", STAFF, ()))), 399)
        self.assertEqual(len(knowns(PLAN, deeds, ("count", STAFF, ()), LAST // 2)), 50)
        self.assertLess(time.process_time() - began, 10)


if __name__ == "__main__":
    unittest.main()
