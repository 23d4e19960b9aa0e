"""Points 4 (d) and 10: what is otherwise between two known days, one behind the other, and undone."""

import time
import unittest

from bothtimes.errors import NoFit
from bothtimes.painting import painting
from bothtimes.patches import followed, patch, undone
from bothtimes.story import line_of
from tests.samples import (LAST, chances, far, full_deeds, line_from, random_deeds, random_step, worths_on)

X = ("x", 1)
Y = ("y", 1)
Z = ("z", 1)
DEEDS = (
    (5, (("put", "staff", "ann", X, 0, 10), ("put", "staff", "bob", X, 0, None))),
    (7, (("put", "staff", "ann", Y, 4, 8), ("put", "tag", "ann", (), 2, 3))),
    (9, (("put", "staff", "ann", X, 4, 8), ("cut", "staff", "bob", 3, None), ("cut", "tag", "zoe", 0, None))),
)
DAYS = 21
PLACES = [(table, key) for table in ("staff", "tag", "team") for key in ("a", "b")]


def ann(*pieces):
    """A patch of the key ann of staff."""
    return tuple(("staff", "ann") + piece for piece in pieces)


def plain_patch(deeds, early, late):
    """The patch by a walk over few days; the last one stands for all behind it."""
    pieces = []
    for table, key in PLACES:
        held = []
        for day in range(DAYS):
            ahead = None if early is None else worths_on(deeds, table, key, day, early)
            behind = worths_on(deeds, table, key, day, late)
            held.append(None if ahead == behind else (ahead, behind))
        pieces += [(table, key, low, high) + what for low, high, what in line_from(held, True)]
    return tuple(pieces)


def change_on(pieces, table, key, day):
    """The change (ahead, behind) that a patch has of this day, or None."""
    for piece in pieces:
        if piece[:2] == (table, key) and piece[2] <= day and (piece[3] is None or day < piece[3]):
            return piece[4:]
    return None


def plain_followed(one, other):
    """Both patches, one behind the other, by a walk over few days; (table, key, day) where they don't fit."""
    pieces = []
    for table, key in PLACES:
        held = []
        for day in range(DAYS):
            here = change_on(one, table, key, day)
            there = change_on(other, table, key, day)
            if here and there:
                if here[1] != there[0]:
                    return (table, key, day)
                both = (here[0], there[1])
                held.append(None if both[0] == both[1] else both)
            else:
                held.append(here or there)
        pieces += [(table, key, low, high) + what for low, high, what in line_from(held, True)]
    return tuple(pieces)


def random_patch(chance):
    """A patch from nothing, or between any two sets of rows."""
    deeds = random_deeds(chance, 8)
    return patch(deeds, early=chance.choice([None, 0, 2]), late=chance.choice([None, 1, 3]))


class Patch(unittest.TestCase):
    def test_left_out(self):
        whole = (("staff", "ann", 0, 10, None, X), ("staff", "bob", 0, 3, None, X), ("tag", "ann", 2, 3, None, ()))
        self.assertEqual(patch(DEEDS), whole)
        self.assertEqual(patch(DEEDS, early=None, late=None), whole)
        self.assertEqual(patch(DEEDS, late=None), whole)
        self.assertEqual(patch(DEEDS, early=0), whole)
        self.assertEqual(patch(DEEDS, late=LAST, early=4), whole)
        self.assertEqual(patch(DEEDS, late=9), whole)

    def test_late_alone(self):
        first = (("staff", "ann", 0, 10, None, X), ("staff", "bob", 0, None, None, X))
        self.assertEqual(patch(DEEDS, late=5), first)
        self.assertEqual(patch(DEEDS, late=6), first)
        self.assertEqual(patch(DEEDS, late=4), ())
        self.assertEqual(patch(DEEDS, late=8), (
            ("staff", "ann", 0, 4, None, X), ("staff", "ann", 4, 8, None, Y), ("staff", "ann", 8, 10, None, X),
            ("staff", "bob", 0, None, None, X), ("tag", "ann", 2, 3, None, ())))

    def test_both(self):
        changed = (("staff", "ann", 4, 8, X, Y), ("tag", "ann", 2, 3, None, ()))
        self.assertEqual(patch(DEEDS, early=5, late=7), changed)
        self.assertEqual(patch(DEEDS, early=6, late=8), changed)
        back = (("staff", "ann", 4, 8, Y, X), ("staff", "bob", 3, None, X, None))
        self.assertEqual(patch(DEEDS, early=7, late=9), back)
        self.assertEqual(patch(DEEDS, early=8), back)
        self.assertEqual(patch(DEEDS, early=5, late=9),
                         (("staff", "bob", 3, None, X, None), ("tag", "ann", 2, 3, None, ())))

    def test_the_same_day(self):
        for day in (0, 5, 6, 7, 9, LAST):
            self.assertEqual(patch(DEEDS, early=day, late=day), ())
        self.assertEqual(patch(DEEDS, early=9), ())
        self.assertEqual(patch(DEEDS, early=5, late=6), ())
        self.assertEqual(patch(DEEDS, early=0, late=4), ())

    def test_late_ahead_of_early(self):
        self.assertEqual(patch(DEEDS, early=7, late=5), (("staff", "ann", 4, 8, Y, X), ("tag", "ann", 2, 3, (), None)))
        self.assertEqual(patch(DEEDS, early=5, late=0),
                         (("staff", "ann", 0, 10, X, None), ("staff", "bob", 0, None, X, None)))

    def test_no_deeds(self):
        self.assertEqual(patch(()), ())
        self.assertEqual(patch((), early=5, late=7), ())

    def test_as_few_as_can_be(self):
        deeds = ((1, tuple(("put", "tag", "a", (), low, low + 1) for low in (3, 1, 0, 2, 5))),
                 (2, (("put", "tag", "a", (), 2, 6),)))
        self.assertEqual(patch(deeds, late=1), (("tag", "a", 0, 4, None, ()), ("tag", "a", 5, 6, None, ())))
        self.assertEqual(patch(deeds, early=1), (("tag", "a", 4, 5, None, ()),))
        unlike = ((1, (("put", "staff", "a", X, 0, 5), ("put", "staff", "a", Y, 5, 9))),
                  (2, (("put", "staff", "a", Z, 3, 7),)), (3, (("put", "staff", "a", Y, 0, None),)))
        self.assertEqual(patch(unlike, early=1, late=2),
                         (("staff", "a", 3, 5, X, Z), ("staff", "a", 5, 7, Y, Z)))
        self.assertEqual(patch(unlike, early=1, late=3),
                         (("staff", "a", 0, 5, X, Y), ("staff", "a", 9, None, None, Y)))

    def test_cuts_of_what_is_not_there(self):
        self.assertEqual(patch(((1, (("cut", "tag", "a", 0, None),)),)), ())

    def test_worths_of_no_columns_are_not_nothing(self):
        deeds = ((1, (("put", "tag", "a", (), 0, None),)), (2, (("cut", "tag", "a", 4, None),)))
        self.assertEqual(patch(deeds, early=1), (("tag", "a", 4, None, (), None),))

    def test_by_plain_walks(self):
        for chance in chances(60, 40):
            deeds = random_deeds(chance)
            days = [None, 0, 2, 4, 7, 30]
            for early in days:
                for late in days:
                    self.assertEqual(patch(deeds, early=early, late=late), plain_patch(deeds, early, late))

    def test_handed_in_by_names(self):
        self.assertRaises(TypeError, patch, DEEDS, 5)
        self.assertRaises(TypeError, patch, DEEDS, 5, 7)


class Followed(unittest.TestCase):
    def check(self, one, other, due):
        kept = (tuple(one), tuple(other))
        self.assertEqual(followed(one, other), due)
        self.assertEqual((one, other), kept)

    def test_the_empty_patch(self):
        one = ann((0, 4, None, X), (4, None, Y, X))
        self.check((), (), ())
        self.check(one, (), one)
        self.check((), one, one)

    def test_of_unlike_keys(self):
        one = ann((0, 4, None, X))
        for other in ((("staff", "bob", 0, 4, X, None),), (("team", "ann", 0, 4, (1,), (2,)),)):
            self.check(one, other, one + other)
            self.check(other, one, one + other)

    def test_apart_and_touching(self):
        self.check(ann((0, 4, X, Y)), ann((6, 8, X, Y)), ann((0, 4, X, Y), (6, 8, X, Y)))
        self.check(ann((6, 8, X, Y)), ann((0, 4, X, Y)), ann((0, 4, X, Y), (6, 8, X, Y)))
        self.check(ann((0, 4, X, Y)), ann((4, 8, X, Y)), ann((0, 8, X, Y)))
        self.check(ann((4, 8, X, Y)), ann((0, 4, X, Y)), ann((0, 8, X, Y)))
        self.check(ann((0, 4, X, Y)), ann((4, 8, Z, Y)), ann((0, 4, X, Y), (4, 8, Z, Y)))
        self.check(ann((0, 4, X, Y)), ann((4, 8, X, Z)), ann((0, 4, X, Y), (4, 8, X, Z)))
        self.check(ann((0, 4, X, Y), (6, 8, X, Y)), ann((4, 6, X, Y)), ann((0, 8, X, Y)))
        self.check(ann((0, 4, X, None)), ann((4, None, X, None)), ann((0, None, X, None)))

    def test_meeting(self):
        self.check(ann((0, 6, X, Y)), ann((4, 6, Y, Z), (6, 9, X, Z)), ann((0, 4, X, Y), (4, 9, X, Z)))
        self.check(ann((0, 6, X, Y)), ann((0, 6, Y, Z)), ann((0, 6, X, Z)))
        self.check(ann((0, 6, None, X)), ann((0, 6, X, Z)), ann((0, 6, None, Z)))
        self.check(ann((0, 6, X, None)), ann((0, 6, None, Z)), ann((0, 6, X, Z)))

    def test_within_one_another(self):
        self.check(ann((0, 9, X, Y)), ann((3, 5, Y, Z)), ann((0, 3, X, Y), (3, 5, X, Z), (5, 9, X, Y)))
        self.check(ann((3, 5, X, Y)), ann((0, 3, X, Z), (3, 5, Y, Z), (5, 9, X, Z)), ann((0, 9, X, Z)))
        self.check(ann((0, None, X, Y)), ann((3, None, Y, Z)), ann((0, 3, X, Y), (3, None, X, Z)))

    def test_back_to_what_was_ahead(self):
        self.check(ann((0, 9, X, Y)), ann((3, 5, Y, X)), ann((0, 3, X, Y), (5, 9, X, Y)))
        self.check(ann((0, 9, X, Y)), ann((0, 9, Y, X)), ())
        self.check(ann((0, None, None, Y)), ann((2, None, Y, None)), ann((0, 2, None, Y)))
        self.check(ann((3, 5, X, Y), (5, 7, Z, Y)), ann((3, 7, Y, X)), ann((5, 7, Z, X)))

    def no_fit(self, one, other, *place):
        kept = (tuple(one), tuple(other))
        with self.assertRaises(NoFit) as caught:
            followed(one, other)
        self.assertEqual((caught.exception.table, caught.exception.key, caught.exception.day), place)
        self.assertEqual(vars(caught.exception), dict(zip(("table", "key", "day"), place)))
        self.assertEqual((one, other), kept)

    def test_no_fit(self):
        self.no_fit(ann((0, 9, X, Y)), ann((3, 5, X, Z)), "staff", "ann", 3)
        self.no_fit(ann((3, 5, X, Y)), ann((0, 9, X, Z)), "staff", "ann", 3)
        self.no_fit(ann((0, 9, X, Y)), ann((8, None, None, Z)), "staff", "ann", 8)
        self.no_fit(ann((0, 9, X, None)), ann((8, None, Y, Z)), "staff", "ann", 8)
        self.no_fit(ann((0, 9, X, Y)), ann((0, 3, Y, X), (3, 6, Z, X)), "staff", "ann", 3)
        self.no_fit(ann((LAST, None, X, Y)), ann((0, None, X, Y)), "staff", "ann", LAST)
        self.no_fit(ann((0, 4, X, Y)), ann((0, 4, X, Y)), "staff", "ann", 0)

    def test_no_fit_of_the_least_place(self):
        def three(*pieces):
            places = (("staff", "ann"), ("staff", "bob"), ("team", "ann"))
            return tuple(place + piece for place, piece in zip(places, pieces))
        one = three((5, 9, X, Y), (3, 9, X, Y), (0, 9, X, Y))
        self.no_fit(one, three((7, 8, X, Y), (3, 9, X, Y), (0, 9, X, Y)), "staff", "ann", 7)
        self.no_fit(one, three((9, 10, X, Y), (4, 9, X, Y), (0, 9, X, Y)), "staff", "bob", 4)
        self.no_fit(one, three((5, 9, Y, X), (3, 9, Y, X), (0, 9, X, Y)), "team", "ann", 0)

    def test_by_plain_walks(self):
        fits = 0
        for chance in chances(600, 41):
            one = random_patch(chance)
            other = random_patch(chance) if chance.random() < 0.6 else undone(one)[::2]
            due = plain_followed(one, other)
            if due and not isinstance(due[0], tuple):
                self.no_fit(one, other, *due)
            else:
                self.check(one, other, due)
                fits += 1
        self.assertTrue(50 < fits < 550, fits)


class Undone(unittest.TestCase):
    def test_exchanged(self):
        self.assertEqual(undone(()), ())
        self.assertEqual(undone(ann((0, 4, None, X), (4, 6, Y, X), (9, None, Z, None))),
                         ann((0, 4, X, None), (4, 6, X, Y), (9, None, None, Z)))

    def test_twice_and_followed(self):
        for chance in chances(100, 42):
            one = random_patch(chance)
            self.assertEqual(undone(undone(one)), one)
            self.assertEqual(followed(one, undone(one)), ())
            self.assertEqual(followed(undone(one), one), ())

    def test_it_leads_back(self):
        for chance in chances(40, 43):
            deeds = random_deeds(chance)
            for early in (0, 2, 5):
                for late in (0, 3, 9):
                    self.assertEqual(undone(patch(deeds, early=early, late=late)), patch(deeds, early=late, late=early))


class Composing(unittest.TestCase):
    def test_from_one_known_day_to_a_third(self):
        for chance in chances(40, 44):
            deeds = random_deeds(chance)
            days = (0, 1, 3, 4, 7, 12)
            for early in (None,) + days:
                for middle in days:
                    one = patch(deeds, early=early, late=middle)
                    for late in days + (None,):
                        other = patch(deeds, early=middle, late=late)
                        self.assertEqual(followed(one, other), patch(deeds, early=early, late=late))

    def test_deeds_of_one_known_day_lead_where_one_of_all_steps_leads(self):
        for chance in chances(80, 45):
            ahead = random_deeds(chance, 4)
            day = ahead[-1][0] + 1 if ahead else 3
            steps = tuple(random_step(chance) for number in range(2 + chance.randrange(6)))
            parts = ahead + tuple((day, (step,)) for step in steps)
            whole = ahead + ((day, steps),)
            for early in (None, 0, day - 1):
                self.assertEqual(patch(parts, early=early), patch(whole, early=early))
            for table, key in PLACES:
                self.assertEqual(line_of(parts, table, key), line_of(whole, table, key))

    def test_a_deed_leads_to_what_its_steps_paint(self):
        for chance in chances(80, 46):
            ahead = random_deeds(chance, 4)
            day = ahead[-1][0] + 1 if ahead else 3
            steps = tuple(random_step(chance) for number in range(1 + chance.randrange(6)))
            deeds = ahead + ((day, steps),)
            for table, key, low, high, worths in painting(steps):
                for at in (low, 20 if high is None else high - 1):
                    self.assertEqual(worths_on(deeds, table, key, at, None), worths)
                    change = change_on(patch(deeds, early=day - 1), table, key, at)
                    self.assertTrue(change is None or change[1] == worths)
            alone = patch(((day, steps),))
            puts = tuple(piece for piece in painting(steps) if piece[4] is not None)
            self.assertEqual(alone, tuple(piece[:4] + (None, piece[4]) for piece in puts))


class AtOnce(unittest.TestCase):
    def test_sixty_deeds_of_far_days(self):
        deeds = full_deeds()
        began = time.process_time()
        days = [None] + [deeds[at][0] for at in (9, 29, 49, 59)]
        parts = [patch(deeds, early=early, late=late) for early, late in zip(days, days[1:])]
        told = ()
        for part in parts:
            told = followed(told, part)
        self.assertEqual(told, patch(deeds))
        self.assertEqual(followed(told, undone(told)), ())
        self.assertLess(time.process_time() - began, 2)

    def test_far_days_tell_the_same(self):
        for chance in chances(40, 47):
            deeds = random_deeds(chance)
            near = patch(deeds, early=2, late=5)
            due = tuple(piece[:2] + tuple(None if day is None else day * 10 ** 10 for day in piece[2:4]) + piece[4:]
                        for piece in near)
            self.assertEqual(patch(far(deeds), early=2 * 10 ** 10, late=5 * 10 ** 10), due)


if __name__ == "__main__":
    unittest.main()
