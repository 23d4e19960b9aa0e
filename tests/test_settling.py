"""Points 4 (b) and 8: all that is known on a day as one deed."""

import unittest

from bothtimes.painters import painters
from bothtimes.painting import painting
from bothtimes.plans import are_deeds
from bothtimes.settling import settled
from bothtimes.story import known_line, line_of, rows_at
from tests.samples import LAST, PLAN, chances, full_deeds, plain_painting, random_deeds

X = ("x", 1)
Y = ("y", 1)
FIRST_TOLD = (5, (("put", "team", "red", (None,), 0, None), ("put", "staff", "ann", X, 0, 10)))
SECOND = (7, (("put", "staff", "ann", Y, 4, 8), ("cut", "tag", "zoe", 3, 9)))
THIRD = (7, (("cut", "staff", "ann", 6, 7), ("put", "tag", "ann", (), 2, 3)))
FOURTH = (9, (("put", "staff", "ann", X, 4, 8), ("cut", "staff", "bob", 3, None)))
DEEDS = (FIRST_TOLD, SECOND, THIRD, FOURTH)
ON_SEVEN = (
    ("put", "staff", "ann", X, 0, 4), ("put", "staff", "ann", Y, 4, 6), ("cut", "staff", "ann", 6, 7),
    ("put", "staff", "ann", Y, 7, 8), ("put", "staff", "ann", X, 8, 10), ("put", "tag", "ann", (), 2, 3),
    ("cut", "tag", "zoe", 3, 9), ("put", "team", "red", (None,), 0, None),
)
ON_NINE = (
    ("put", "staff", "ann", X, 0, 10), ("cut", "staff", "bob", 3, None), ("put", "tag", "ann", (), 2, 3),
    ("cut", "tag", "zoe", 3, 9), ("put", "team", "red", (None,), 0, None),
)
ASKED = [(table, key) for table in ("staff", "tag", "team") for key in ("a", "b")]


class Settled(unittest.TestCase):
    def test_ahead_of_the_first_deed(self):
        for day in (0, 4):
            self.assertEqual(settled(DEEDS, day), DEEDS)

    def test_no_deeds(self):
        self.assertEqual(settled((), 0), ())
        self.assertEqual(settled((), LAST), ())

    def test_on_the_first_deed_and_behind_it(self):
        steps = FIRST_TOLD[1][::-1]
        self.assertEqual(settled(DEEDS, 5), ((5, steps), SECOND, THIRD, FOURTH))
        self.assertEqual(settled(DEEDS, 6), ((6, steps), SECOND, THIRD, FOURTH))

    def test_several_deeds_on_one_known_day(self):
        self.assertEqual(settled(DEEDS, 7), ((7, ON_SEVEN), FOURTH))
        self.assertEqual(settled(DEEDS, 8), ((8, ON_SEVEN), FOURTH))

    def test_on_the_last_deed_and_behind_all(self):
        self.assertEqual(settled(DEEDS, 9), ((9, ON_NINE),))
        self.assertEqual(settled(DEEDS, 10), ((10, ON_NINE),))
        self.assertEqual(settled(DEEDS, LAST), ((LAST, ON_NINE),))

    def test_cuts_of_what_is_not_there(self):
        cut = ("cut", "tag", "zoe", 3, None)
        self.assertEqual(settled(((2, (cut,)), (2, (cut, cut))), 2), ((2, (cut,)),))
        self.assertEqual(settled(((0, (cut,)),), 0), ((0, (cut,)),))

    def test_as_few_steps_as_can_be(self):
        steps = tuple(("put", "tag", "a", (), low, low + 1) for low in (3, 1, 0, 2, 5))
        self.assertEqual(settled(((1, steps[:2]), (2, steps[2:])), 2),
                         ((2, (("put", "tag", "a", (), 0, 4), ("put", "tag", "a", (), 5, 6))),))

    def test_of_one_deed(self):
        self.assertEqual(settled((SECOND,), 7), ((7, SECOND[1]),))
        self.assertEqual(settled((SECOND, SECOND), 7), ((7, SECOND[1]),))

    def test_by_plain_walks(self):
        for chance in chances(60, 20):
            deeds = random_deeds(chance)
            for day in range(0, 22, 2):
                self.check(deeds, day)

    def check(self, deeds, day):
        told = settled(deeds, day)
        self.assertTrue(are_deeds(PLAN, told))
        ahead = tuple(deed for deed in deeds if deed[0] <= day)
        steps = tuple(step for known, steps in ahead for step in steps)
        due = tuple(("cut",) + piece[:4] if piece[4] is None else ("put",) + piece[:2] + (piece[4],) + piece[2:4]
                    for piece in plain_painting(steps))
        self.assertEqual(told, (((day, due),) if ahead else ()) + deeds[len(ahead):])
        self.assertEqual(settled(told, day), told)
        if ahead:
            self.assertEqual(painting(told[0][1]), painting(steps))

    def test_what_is_known_from_the_day_on_and_ahead(self):
        for chance in chances(40, 21):
            deeds = random_deeds(chance)
            for day in range(0, 15, 2):
                told = settled(deeds, day)
                some = told != deeds or (deeds and deeds[0][0] <= day)
                for known in [None] + list(range(18)):
                    for table, key in ASKED:
                        due = line_of(deeds, table, key, known=known)
                        if some and known is not None and known < day:
                            due = ()
                        self.assertEqual(line_of(told, table, key, known=known), due)
                    if known is None or known >= day:
                        for table in ("staff", "tag", "team"):
                            self.assertEqual(rows_at(told, table, 5, known=known), rows_at(deeds, table, 5, known=known))
                    elif some:
                        self.assertEqual(rows_at(told, "staff", 5, known=known), ())

    def test_known_days_begin_at_the_day(self):
        told = settled(DEEDS, 8)
        self.assertEqual(known_line(DEEDS, "staff", "ann", 4), ((5, 7, X), (7, 9, Y), (9, None, X)))
        self.assertEqual(known_line(told, "staff", "ann", 4), ((8, 9, Y), (9, None, X)))
        self.assertEqual(painters(told, "staff", "ann", known=8)[0], (0, 4, (0, 0)))

    def test_sixty_deeds_of_far_days(self):
        deeds = full_deeds()
        day = deeds[-1][0]
        told = settled(deeds, day)
        self.assertEqual((len(told), told[0][0]), (1, day))
        self.assertEqual(painting(told[0][1]), painting(tuple(step for known, steps in deeds for step in steps)))
        self.assertEqual(settled(deeds, day - 1)[1:], deeds[-2:])


if __name__ == "__main__":
    unittest.main()
