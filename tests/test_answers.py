"""Points 3, 4 (a), 4 (b), 12 and 13: what a question has on a day."""

import time
import unittest

from bothtimes.answers import answer
from bothtimes.plans import are_deeds, is_plan
from bothtimes.questions import columns_of, is_question
from tests.asked import KEYS, PLAN, in_order, plain_rows, random_question
from tests.samples import LAST, chances, full_deeds, random_deeds_of, random_row_step

# PLAN has the tables city (land, size), land (head, pay), staff (home, pay, boss) and tag ().
STAFF = ("rows", "staff")


def put(table, key, worths, low=0, high=None):
    return ("put", table, key, worths, low, high)


DEEDS = ((5, (
    put("land", "north", ("ann", -7)), put("land", "south", (None, "much")),
    put("city", "ulm", ("north", 3)), put("city", "rom", ("south", None)), put("city", "bad", (None, "big")),
    put("staff", "ann", ("ulm", 9, None)), put("staff", "bob", ("ulm", 5, "ann")), put("staff", "cyd", ("rom", 9, "ann")),
    put("staff", "dan", ("rom", "some", "bob")), put("staff", "eve", (None, None, "eve")), put("staff", "fay", (None, -4, None)),
    put("tag", "ulm", ()), put("tag", "ann", ()),
)),)
ANN = ("ann", "ulm", 9, None)
BOB = ("bob", "ulm", 5, "ann")
CYD = ("cyd", "rom", 9, "ann")
DAN = ("dan", "rom", "some", "bob")
EVE = ("eve", None, None, "eve")
FAY = ("fay", None, -4, None)


class Asking(unittest.TestCase):
    def check(self, question, *rows, deeds=DEEDS, day=3, known=None):
        self.assertTrue(is_question(PLAN, question), question)
        told = answer(PLAN, deeds, question, day, known=known)
        self.assertEqual(told, rows)
        for row in told:
            self.assertEqual(len(row), len(columns_of(PLAN, question)))


class Forms(Asking):
    def test_plan_and_deeds(self):
        self.assertTrue(is_plan(PLAN) and are_deeds(PLAN, DEEDS))

    def test_rows(self):
        self.check(STAFF, ANN, BOB, CYD, DAN, EVE, FAY)
        self.check(("rows", "tag"), ("ann",), ("ulm",))
        self.check(("rows", "city"), ("bad", None, "big"), ("rom", "south", None), ("ulm", "north", 3))

    def test_where(self):
        self.check(("where", STAFF, "home", "ulm"), ANN, BOB)
        self.check(("where", STAFF, "home", None), EVE, FAY)
        self.check(("where", STAFF, "pay", 9), ANN, CYD)
        self.check(("where", STAFF, "pay", -4), FAY)
        self.check(("where", STAFF, "pay", "some"), DAN)
        self.check(("where", STAFF, "pay", None), EVE)
        self.check(("where", STAFF, "key", "bob"), BOB)
        self.check(("where", STAFF, "pay", 4))
        self.check(("where", STAFF, "key", None))
        self.check(("where", STAFF, "home", "nowhere"))

    def test_above(self):
        self.check(("above", STAFF, "pay", 5), ANN, CYD)
        self.check(("above", STAFF, "pay", 4), ANN, BOB, CYD)
        self.check(("above", STAFF, "pay", -4), ANN, BOB, CYD)
        self.check(("above", STAFF, "pay", -5), ANN, BOB, CYD, FAY)
        self.check(("above", STAFF, "pay", 9))
        self.check(("above", STAFF, "home", -10 ** 18))

    def test_join(self):
        self.check(("join", STAFF, "home", "city"), ANN + ("north", 3), BOB + ("north", 3), CYD + ("south", None),
                   DAN + ("south", None))
        self.check(("join", STAFF, "key", "tag"), ANN)
        self.check(("join", STAFF, "home", "tag"), ANN, BOB)
        self.check(("join", STAFF, "pay", "city"))
        self.check(("join", ("rows", "city"), "land", "land"), ("rom", "south", None, None, "much"),
                   ("ulm", "north", 3, "ann", -7))

    def test_lacking(self):
        self.check(("lacking", STAFF, "home", "city"), EVE, FAY)
        self.check(("lacking", STAFF, "key", "tag"), BOB, CYD, DAN, EVE, FAY)
        self.check(("lacking", STAFF, "pay", "city"), ANN, BOB, CYD, DAN, EVE, FAY)
        self.check(("lacking", STAFF, "boss", "staff"), ANN, FAY)
        self.check(("lacking", STAFF, "key", "staff"))

    def test_keep(self):
        self.check(("keep", STAFF, ("home",)), (None,), ("rom",), ("ulm",))
        self.check(("keep", STAFF, ("pay", "home")), (None, None), (-4, None), (5, "ulm"), (9, "rom"), (9, "ulm"),
                   ("some", "rom"))
        self.check(("keep", STAFF, ("boss",)), (None,), ("ann",), ("bob",), ("eve",))

    def test_top(self):
        self.check(("top", STAFF, (), "pay"), ANN, CYD)
        self.check(("top", STAFF, ("home",), "pay"), ANN, CYD, FAY)
        self.check(("top", STAFF, ("boss",), "pay"), ANN, CYD)
        self.check(("top", STAFF, ("key",), "pay"), ANN, BOB, CYD, FAY)
        self.check(("top", STAFF, ("home", "boss"), "pay"), ANN, BOB, CYD, FAY)
        self.check(("top", STAFF, ("pay",), "pay"), ANN, BOB, CYD, FAY)
        self.check(("top", STAFF, (), "home"))
        self.check(("top", STAFF, ("home",), "key"))
        self.check(("top", ("where", STAFF, "home", None), (), "pay"), FAY)
        self.check(("top", ("where", STAFF, "pay", None), (), "pay"))

    def test_count(self):
        self.check(("count", STAFF, ("home",)), (None, 2), ("rom", 2), ("ulm", 2))
        self.check(("count", STAFF, ("pay",)), (None, 1), (-4, 1), (5, 1), (9, 2), ("some", 1))
        self.check(("count", STAFF, ()), (6,))
        self.check(("count", STAFF, ("boss", "home")), (None, None, 1), (None, "ulm", 1), ("ann", "rom", 1),
                   ("ann", "ulm", 1), ("bob", "rom", 1), ("eve", None, 1))
        self.check(("count", ("where", STAFF, "pay", 4), ()))
        self.check(("count", ("where", STAFF, "pay", 4), ("home",)))

    def test_sum(self):
        self.check(("sum", STAFF, ("home",), "pay"), (None, -4), ("rom", 9), ("ulm", 14))
        self.check(("sum", STAFF, (), "pay"), (19,))
        self.check(("sum", STAFF, (), "home"), (0,))
        self.check(("sum", STAFF, ("boss",), "pay"), (None, 5), ("ann", 14), ("bob", 0), ("eve", 0))
        self.check(("sum", STAFF, ("pay",), "pay"), (None, 0), (-4, -4), (5, 5), (9, 18), ("some", 0))
        self.check(("sum", ("where", STAFF, "pay", 4), (), "pay"))
        self.check(("sum", ("where", STAFF, "pay", "some"), (), "pay"), (0,))

    def test_rows_that_come_out_alike_are_one(self):
        kept = ("keep", STAFF, ("pay",))
        self.check(("count", kept, ()), (5,))
        self.check(("sum", kept, (), "pay"), (10,))
        self.check(("count", ("keep", STAFF, ("home", "boss")), ("home",)), (None, 2), ("rom", 2), ("ulm", 2))

    def test_over_one_another(self):
        self.check(("above", ("count", ("keep", STAFF, ("pay", "boss")), ("boss",)), "many", 1), (None, 2), ("ann", 2))
        self.check(("join", ("sum", STAFF, ("home",), "pay"), "home", "city"), ("rom", 9, "south", None),
                   ("ulm", 14, "north", 3))
        self.check(("count", ("count", STAFF, ("home",)), ()), (3,))
        self.check(("sum", ("count", STAFF, ("home",)), (), "many"), (6,))
        self.check(("count", ("sum", STAFF, ("home",), "pay"), ("sum",)), (-4, 1), (9, 1), (14, 1))
        self.check(("top", ("count", STAFF, ("home",)), (), "many"), (None, 2), ("rom", 2), ("ulm", 2))

    def test_six_deep(self):
        kept = ("keep", ("join", ("keep", ("above", STAFF, "pay", 4), ("key", "home")), "home", "city"), ("land", "key"))
        self.check(("count", kept, ("land",)), ("north", 2), ("south", 1))

    def test_great_numbers(self):
        most = 10 ** 18 - 1
        deeds = ((0, tuple(put("staff", key, (None, most, None)) for key in ("a", "b", "c"))),)
        self.check(("sum", STAFF, (), "pay"), (3 * most,), deeds=deeds)
        self.check(("above", STAFF, "pay", most), deeds=deeds)
        self.check(("count", ("above", STAFF, "pay", most - 1), ()), (3,), deeds=deeds)


class Days(Asking):
    DEEDS = (
        (4, (put("staff", "ann", ("ulm", 1, None), 3, 9), put("city", "ulm", (None, 1), 5, 7))),
        (6, (put("staff", "ann", ("ulm", 2, None), 8, LAST), put("staff", "bob", (None, 7, None), LAST))),
        (6, (("cut", "staff", "ann", 4, 5),)),
        (9, (put("city", "ulm", (None, 2), 5, 6), ("cut", "staff", "bob", 0, None))),
    )

    def test_days_on_which_rows_begin_and_end(self):
        first = ("ann", "ulm", 1, None)
        second = ("ann", "ulm", 2, None)
        bob = ("bob", None, 7, None)
        for day, rows in ((0, ()), (2, ()), (3, (first,)), (4, ()), (5, (first,)), (7, (first,)), (8, (second,)),
                          (9, (second,)), (LAST - 1, (second,)), (LAST, ())):
            self.check(STAFF, *rows, deeds=self.DEEDS, day=day)
        self.check(STAFF, second, deeds=self.DEEDS, day=LAST - 1, known=8)
        self.check(STAFF, bob, deeds=self.DEEDS, day=LAST, known=8)

    def test_joins_by_days(self):
        joined = ("join", STAFF, "home", "city")
        lacking = ("lacking", STAFF, "home", "city")
        row = ("ann", "ulm", 1, None)
        for day, rows, without in ((3, (), (row,)), (4, (), ()), (5, (row + (None, 2),), ()), (6, (row + (None, 1),), ()),
                                   (7, (), (row,))):
            self.check(joined, *rows, deeds=self.DEEDS, day=day)
            self.check(lacking, *without, deeds=self.DEEDS, day=day)

    def test_known(self):
        count = ("count", STAFF, ())
        for known, rows in ((0, ()), (3, ()), (4, ((1,),)), (5, ((1,),)), (6, ()), (7, ()), (9, ()), (None, ())):
            self.check(count, *rows, deeds=self.DEEDS, day=4, known=known)
        size = ("keep", ("rows", "city"), ("size",))
        for known, rows in ((3, ()), (4, ((1,),)), (8, ((1,),)), (9, ((2,),)), (10, ((2,),)), (LAST, ((2,),))):
            self.check(size, *rows, deeds=self.DEEDS, day=5, known=known)
        self.assertEqual(answer(PLAN, self.DEEDS, size, 5), ((2,),))

    def test_no_deeds(self):
        for question in (STAFF, ("count", STAFF, ()), ("sum", STAFF, (), "pay"), ("lacking", STAFF, "home", "city")):
            self.check(question, deeds=())
            self.check(question, deeds=(), known=5)

    def test_handed_in_by_names(self):
        self.assertRaises(TypeError, answer, PLAN, DEEDS, STAFF, 3, 5)


class Order(Asking):
    def test_rising(self):
        things = (None, -10 ** 18, -1, 0, 2, 10, "a", "aa", "b", "z")
        keys = ("k", "c", "j", "a", "i", "b", "h", "d", "g", "e")
        deeds = ((0, tuple(put("staff", key, (None, thing, None)) for key, thing in zip(keys, things))),)
        self.check(("keep", STAFF, ("pay",)), *[(thing,) for thing in things], deeds=deeds)
        self.check(("keep", STAFF, ("pay", "key")), *zip(things, keys), deeds=deeds)
        self.check(("keep", STAFF, ("key",)), *[(key,) for key in sorted(keys)], deeds=deeds)
        self.check(("keep", STAFF, ("home", "pay")), *[(None, thing) for thing in things], deeds=deeds)


class Walks(unittest.TestCase):
    def test_by_a_plain_walk(self):
        seen = 0
        for chance in chances(250, 70):
            deeds = random_deeds_of(chance, PLAN, KEYS, 8, 6, 0.1)
            question = random_question(chance, 1 + chance.randrange(6))
            for day in (0, 3, 9, 30):
                for known in (None, 0, 2, 5, 9):
                    rows = answer(PLAN, deeds, question, day, known=known)
                    self.assertEqual(rows, in_order(plain_rows(deeds, question, day, known)))
                    seen += len(rows)
        self.assertGreater(seen, 1000)

    def test_what_was_known_stays_so(self):
        for chance in chances(60, 71):
            deeds = random_deeds_of(chance, PLAN, KEYS, 6, 5, 0.1)
            last = deeds[-1][0]
            more = deeds + tuple((last + 1 + number, (random_row_step(chance, PLAN, KEYS),)) for number in range(4))
            question = random_question(chance, 1 + chance.randrange(6))
            for day in (0, 4, 12):
                for known in range(last + 1):
                    self.assertEqual(answer(PLAN, more, question, day, known=known),
                                     answer(PLAN, deeds, question, day, known=known))
                self.assertEqual(answer(PLAN, more, question, day, known=last), answer(PLAN, deeds, question, day))

    def test_sixty_deeds_of_far_days(self):
        deeds = full_deeds(PLAN)
        question = ("top", ("count", ("join", ("lacking", STAFF, "boss", "tag"), "home", "city"), ("land",)), (), "many")
        began = time.process_time()
        for day in range(0, LAST, LAST // 40):
            self.assertEqual(answer(PLAN, deeds, question, day), in_order(plain_rows(deeds, question, day)))
        self.assertLess(time.process_time() - began, 10)


if __name__ == "__main__":
    unittest.main()
