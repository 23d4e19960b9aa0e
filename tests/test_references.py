"""Points 4 (c) and 9: references that break."""

import time
import unittest

from bothtimes.plans import are_deeds, is_plan
from bothtimes.references import broken
from tests.samples import (LAST, chances, far, full_deeds, plain_broken, random_deeds_of, random_row_step, ring, words)

PLAN = (
    ("staff", ("team", "pay", "boss"), (("boss", "staff"), ("team", "team"))),
    ("team", ("name",), ()),
)


def put(table, key, worths, low=0, high=None):
    return ("put", table, key, worths, low, high)


def cut(table, key, low=0, high=None):
    return ("cut", table, key, low, high)


def team(low=0, high=None, key="red"):
    return put("team", key, (None,), low, high)


def member(low=0, high=None, key="ann", name="red", boss=None):
    return put("staff", key, (name, 5, boss), low, high)


class Broken(unittest.TestCase):
    def check(self, steps, due, plan=PLAN):
        deeds = ((3, tuple(steps)),) if steps else ()
        self.assertTrue(is_plan(plan) and are_deeds(plan, deeds))
        self.assertEqual(broken(plan, deeds), due)

    def test_none(self):
        self.check([], None)
        self.check([team()], None)
        self.check([team(), member()], None)
        self.check([member(), team()], None)
        self.check([team(3, 9), member(3, 9)], None)
        self.check([team(3, 9), member(4, 8)], None)

    def test_to_another_table(self):
        self.check([member()], (0, "staff", "ann", "team"))
        self.check([member(7, 9)], (7, "staff", "ann", "team"))
        self.check([team(key="blue"), member()], (0, "staff", "ann", "team"))
        self.check([put("staff", "red", (None, 5, None)), member()], (0, "staff", "ann", "team"))

    def test_begins_ahead_ends_behind_has_a_gap(self):
        self.check([team(3, 9), member(2, 9)], (2, "staff", "ann", "team"))
        self.check([team(3, 9), member(3, 10)], (9, "staff", "ann", "team"))
        self.check([team(3, 9), member(3)], (9, "staff", "ann", "team"))
        self.check([team(3, 9), member(5, 9), cut("team", "red", 6, 7)], (6, "staff", "ann", "team"))
        self.check([team(3, 6), team(7, 9), member(3, 9)], (6, "staff", "ann", "team"))
        self.check([team(3, 6), put("team", "red", (7,), 6, 9), member(3, 9)], None)
        self.check([team(3), member(3)], None)
        self.check([team(4), member(3)], (3, "staff", "ann", "team"))
        self.check([team(3), member(12), cut("team", "red", 3, 12)], None)

    def test_gaps_apart_from_the_row(self):
        self.check([team(), cut("team", "red", 5, 8), member(0, 5), member(8, 12)], None)
        self.check([team(), cut("team", "red", 5, 8), member(0, 5), member(7, 12)], (7, "staff", "ann", "team"))
        self.check([team(), cut("team", "red", 5, 8), member(), cut("staff", "ann", 5, 8)], None)

    def test_to_itself(self):
        self.check([team(), member(boss="bob")], (0, "staff", "ann", "boss"))
        self.check([team(), member(boss="ann")], None)
        self.check([team(), member(boss="bob"), member(key="bob", boss="ann")], None)
        self.check([team(), member(boss="bob"), member(key="bob", boss="ann", low=2)], (0, "staff", "ann", "boss"))
        self.check([team(), member(boss="bob", low=2), member(key="bob", boss="ann")], (0, "staff", "bob", "boss"))

    def test_none_in_the_column(self):
        self.check([put("staff", "ann", (None, 5, None))], None)
        self.check([put("staff", "ann", (None, "red", None))], None)
        self.check([member(), put("staff", "ann", (None, 5, None), 0, 6)], (6, "staff", "ann", "team"))

    def test_a_word_in_a_column_that_does_not_refer(self):
        self.check([team(), put("team", "blue", ("none",)), put("staff", "ann", ("red", "none", None))], None)

    def test_rows_cut_and_put_again(self):
        self.check([team(), member(), cut("team", "red", 4)], (4, "staff", "ann", "team"))
        self.check([team(), member(), cut("team", "red", 4), team(4)], None)
        self.check([team(), member(), cut("team", "red"), cut("staff", "ann")], None)
        self.check([team(), member(), cut("team", "red", 4), cut("staff", "ann", 5)], (4, "staff", "ann", "team"))
        self.check([team(), member(), cut("team", "red", 4), cut("staff", "ann", 4), member(6, 7)],
                   (6, "staff", "ann", "team"))

    def test_far_days(self):
        self.check([team(LAST), member(LAST)], None)
        self.check([team(LAST - 1, LAST), member(LAST - 1)], (LAST, "staff", "ann", "team"))
        self.check([team(0, LAST), member(0)], (LAST, "staff", "ann", "team"))
        self.check([team(LAST), member(5)], (5, "staff", "ann", "team"))

    def test_the_least_of_several(self):
        both = put("staff", "ann", ("none", 5, "nobody"))
        self.check([both], (0, "staff", "ann", "boss"))
        self.check([both, put("staff", "nobody", (None, 1, None), 0, 3)], (0, "staff", "ann", "team"))
        self.check([member(key="bob"), member(key="ann")], (0, "staff", "ann", "team"))
        self.check([member(key="bob", low=2), member(key="ann", low=3)], (2, "staff", "bob", "team"))
        plan = (("aa", ("z",), (("z", "aa"),)), ("bb", ("y",), (("y", "aa"),)))
        self.check([put("bb", "a", ("no",)), put("aa", "z", ("no",))], (0, "aa", "z", "z"), plan)
        self.check([put("bb", "a", ("no",)), put("aa", "z", ("no",), 1)], (0, "bb", "a", "y"), plan)
        self.check([put("bb", "b", ("no",), 4, 5), put("bb", "a", ("no",), 6)], (4, "bb", "b", "y"), plan)

    def test_columns_in_any_order(self):
        plan = (("aa", ("d", "b", "c", "a"), (("a", "bb"), ("b", "bb"), ("d", "aa"))), ("bb", (), ()))
        row = put("aa", "k", ("no", "no", "no", "no"))
        self.check([row], (0, "aa", "k", "a"), plan)
        self.check([put("aa", "k", ("no", "no", "no", None))], (0, "aa", "k", "b"), plan)
        self.check([put("aa", "k", ("no", None, "no", None))], (0, "aa", "k", "d"), plan)
        self.check([put("aa", "k", (None, None, "no", None))], None, plan)
        self.check([row, put("bb", "no", (), 0, 8)], (0, "aa", "k", "d"), plan)
        self.check([put("aa", "k", ("k", "no", "no", "no")), put("bb", "no", (), 0, 8)], (8, "aa", "k", "a"), plan)

    def test_rings(self):
        for many in range(1, 7):
            plan = ring(many)
            self.assertTrue(is_plan(plan))
            whole = [put(table, "k", ("k",), 2, 9) for table, columns, references in plan]
            self.check(whole, None, plan)
            for at, (table, columns, references) in enumerate(plan):
                ahead = plan[(at - 1) % many][0]
                due = None if many == 1 else (5, ahead, "k", "to")
                self.check(whole + [cut(table, "k", 5, 6)], due, plan)
                self.check(whole + [put(table, "k", (None,), 5, 6)], None, plan)
                self.check(whole + [put(table, "k", ("no",), 5, 6)], (5, table, "k", "to"), plan)

    def test_handed_in_by_names(self):
        self.assertRaises(TypeError, broken, PLAN, (), 5)
        self.assertIsNone(broken(PLAN, (), known=5))


class Known(unittest.TestCase):
    DEEDS = ((4, (team(),)), (6, (member(3),)), (6, (cut("team", "red", 8, 9),)), (9, (team(7),)), (11, (cut("team", "red"),)))

    def test_known_days(self):
        breaks = (8, "staff", "ann", "team")
        gone = (3, "staff", "ann", "team")
        for known, due in ((0, None), (3, None), (4, None), (5, None), (6, breaks), (7, breaks), (8, breaks), (9, None),
                           (10, None), (11, gone), (12, gone), (LAST, gone), (None, gone)):
            self.assertEqual(broken(PLAN, self.DEEDS, known=known), due, known)
        self.assertEqual(broken(PLAN, self.DEEDS), gone)

    def test_a_break_that_a_later_deed_mends(self):
        deeds = ((1, (member(),)), (5, (team(),)))
        self.assertEqual(broken(PLAN, deeds, known=4), (0, "staff", "ann", "team"))
        self.assertIsNone(broken(PLAN, deeds, known=5))
        self.assertIsNone(broken(PLAN, deeds))

    def test_a_break_amid_the_deeds_of_one_known_day_is_none(self):
        deeds = ((5, (member(),)), (5, (team(),)))
        self.assertIsNone(broken(PLAN, deeds, known=5))


class Walks(unittest.TestCase):
    def check(self, plan, deeds, known):
        due = plain_broken(plan, deeds, known, range(24))
        self.assertEqual(broken(plan, deeds, known=known), due)
        return due

    def test_rings_by_plain_walks(self):
        seen = []
        for chance in chances(120, 30):
            plan = ring(1 + chance.randrange(6), chance.choice([("to",), ("to", "at"), ()]))
            deeds = random_deeds_of(chance, plan, words(3), 8, 6, cuts=0.1)
            self.assertTrue(is_plan(plan) and are_deeds(plan, deeds))
            seen += [self.check(plan, deeds, known) for known in [None] + list(range(0, 20, 4))]
        self.assertTrue(None in seen and any(due and due[0] > 3 for due in seen))

    def test_six_tables_of_four_columns(self):
        plan = ring(6, ("d", "b", "a", "c"))
        for many in (8, 14, 20):
            for chance in chances(4, 31 + many):
                keys = words(many)
                whole = (0, tuple(put(table[0], key, tuple(chance.choice([None] + keys) for column in table[1]))
                                  for table in plan for key in keys))
                self.assertIsNone(self.check(plan, (whole,), None))
                later = (1, (random_row_step(chance, plan, keys), random_row_step(chance, plan, keys, cuts=1)))
                self.check(plan, (whole, later), None)
                self.assertEqual(broken(plan, (whole, later), known=0), None)

    def test_far_days_tell_the_same(self):
        for chance in chances(40, 35):
            plan = ring(2)
            deeds = random_deeds_of(chance, plan, words(3), 6, 6, cuts=0.1)
            near = broken(plan, deeds)
            due = None if near is None else (near[0] * 10 ** 10,) + near[1:]
            self.assertEqual(broken(plan, far(deeds)), due)


class AtOnce(unittest.TestCase):
    def test_sixty_deeds_of_far_days(self):
        plan = ring(6, ("d", "b", "a", "c"))
        deeds = full_deeds(plan)
        self.assertTrue(are_deeds(plan, deeds))
        began = time.process_time()
        self.assertIsNotNone(broken(plan, deeds))
        self.assertLess(time.process_time() - began, 2)

    def test_many_pieces_of_one_key_that_names_itself(self):
        plan = (("aa", ("p", "q", "r", "s"), (("p", "aa"), ("q", "aa"), ("r", "aa"), ("s", "aa"))),)
        steps = tuple(put("aa", "k", ("k", "k", None, "k") if number % 2 else ("k", None, "k", "k"),
                          number * 10 ** 9, LAST - number * 10 ** 9) for number in range(200))
        began = time.process_time()
        self.assertIsNone(broken(plan, ((0, steps),)))
        self.assertLess(time.process_time() - began, 2)


if __name__ == "__main__":
    unittest.main()
