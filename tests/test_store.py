"""Points 2, 4 and 11: a store, what is told to it one by one, and what it answers."""

import time
import unittest

from bothtimes.errors import Broken, Early, Full, NoDeed, NoFit, NoTable
from bothtimes.logs import log_text
from bothtimes.patches import followed, patch, undone
from bothtimes.references import broken
from bothtimes.store import Store
from bothtimes.story import line_of, rows_at
from tests.samples import LAST, Odd, chances, odd_things, plain_broken
from tests.stores import (DAYS, PLACES, PLAN, Plain, city, cut, next_day, outcome, put, random_span, random_steps, staff,
                          tell_some)

ANN = (None, 5, None)
PATCH = (("staff", "ann", 0, None, None, ANN),)


def is_told(told):
    """Whether it is a patch of some pieces, not a refusal."""
    return bool(told) and isinstance(told[0], tuple)


class Telling(unittest.TestCase):
    """What the tests of the three that tell a deed share."""

    def store(self, *deeds, most=60):
        store = Store(PLAN, most=most)
        for day, *steps in deeds:
            store.tell(day, tuple(steps))
        return store

    def refused(self, store, kind, values, ask, *given, **named):
        """Refused by just this class, with just these values; and all is as it was."""
        ahead = (store.deeds(), str(store), len(store), store.views(), [store.line(*place) for place in PLACES])
        with self.assertRaises(kind) as caught:
            ask(*given, **named)
        self.assertIs(type(caught.exception), kind)
        self.assertEqual(vars(caught.exception), values)
        behind = (store.deeds(), str(store), len(store), store.views(), [store.line(*place) for place in PLACES])
        self.assertEqual(behind, ahead)


class Tell(Telling):
    def test_the_patch(self):
        store = Store(PLAN)
        self.assertEqual(store.tell(3, (staff(),)), PATCH)
        self.assertEqual(store.tell(3, (staff(low=4, high=6, pay=7),)), (("staff", "ann", 4, 6, ANN, (None, 7, None)),))
        self.assertEqual(store.tell(5, (cut("staff", "ann", 5, 9), put("tag", "a"))),
                         (("staff", "ann", 5, 6, (None, 7, None), None), ("staff", "ann", 6, 9, ANN, None),
                          ("tag", "a", 0, None, None, ())))
        self.assertEqual(store.deeds(), ((3, (staff(),)), (3, (staff(low=4, high=6, pay=7),)),
                                         (5, (cut("staff", "ann", 5, 9), put("tag", "a")))))

    def test_nothing_changes(self):
        store = self.store((3, staff()))
        self.assertEqual(store.tell(4, (staff(low=2, high=8),)), ())
        self.assertEqual(store.tell(4, (cut("tag", "a"),)), ())
        self.assertEqual(store.tell(4, (staff(pay=2), staff())), ())
        self.assertEqual(len(store), 4)

    def test_the_last_step_goes(self):
        store = Store(PLAN)
        self.assertEqual(store.tell(0, (staff(), cut("staff", "ann", 3, 5), staff(low=4, high=5))),
                         (("staff", "ann", 0, 3, None, ANN), ("staff", "ann", 4, None, None, ANN)))

    def test_first_and_last_days(self):
        store = Store(PLAN)
        store.tell(0, (put("tag", "a", (), 0, 1),))
        self.assertEqual(store.tell(LAST, (put("tag", "a", (), LAST),)), (("tag", "a", LAST, None, None, ()),))
        self.assertEqual(store.line("tag", "a"), ((0, 1, ()), (LAST, None, ())))
        self.assertEqual(store.line("tag", "a", known=LAST - 1), ((0, 1, ()),))

    def test_no_deed(self):
        store = self.store((3, staff()), most=1)
        wrong = [
            (-1, (staff(),)), (LAST + 1, (staff(),)), (None, (staff(),)), (True, (staff(),)), ("3", (staff(),)),
            ((3,), (staff(),)), (3, ()), (3, None), (3, [staff()]), (3, staff()), (3, (staff(), None)),
            (3, (list(staff()),)), (3, (("set",) + staff()[1:],)), (3, (put("none", "a"),)), (3, (put("tag", "A"),)),
            (3, (put("tag", "abcdefghi"),)), (3, (put("tag", ""),)), (3, (put("tag", None),)), (3, (put("tag", "a", (), 4, 4),)),
            (3, (put("tag", "a", (), 4, 3),)), (3, (put("tag", "a", (), -1),)), (3, (put("tag", "a", (), None),)),
            (3, (put("tag", "a", (), True),)), (3, (put("tag", "a", (), 0, True),)), (3, (put("tag", "a", (), 0, LAST + 1),)),
            (3, (put("tag", "a", (1,)),)), (3, (put("tag", "a", None),)), (3, (put("tag", "a", []),)),
            (3, (put("staff", "ann", (None, 5)),)), (3, (put("staff", "ann", (None, 5, None, None)),)),
            (3, (put("staff", "ann", [None, 5, None]),)), (3, (put("staff", "ann", (1, 5, None)),)),
            (3, (put("staff", "ann", (None, True, None)),)), (3, (put("staff", "ann", (None, "A", None)),)),
            (3, (put("staff", "ann", (None, (5,), None)),)), (3, (put("staff", "ann", (None, None, 5)),)),
            (3, (cut("none", "a"),)), (3, (cut("tag", "a", 3, 3),)), (3, (cut("tag", "a") + (None,),)),
            (3, (cut("tag", "a")[:-1],)), (3, ("put",)), (3, ((),)), (3, "put"),
        ]
        for day, steps in wrong:
            self.refused(store, NoDeed, {}, store.tell, day, steps)

    def test_no_deed_of_anything(self):
        store = self.store((3, staff()), most=1)
        for thing in odd_things():
            for day, steps in ((thing, (staff(),)), (3, thing), (3, (thing,)), (3, (staff(), thing)), (thing, thing)):
                self.refused(store, NoDeed, {}, store.tell, day, steps)
            for at in range(6):
                step = list(staff())
                step[at] = thing
                if at != 5 or thing is not None:
                    self.refused(store, NoDeed, {}, store.tell, 3, (tuple(step),))

    def test_full(self):
        store = self.store((3, staff()), (4, staff()), most=2)
        self.refused(store, Full, {"most": 2}, store.tell, 5, (staff(),))
        self.refused(store, Full, {"most": 2}, store.tell, 1, (staff(home="none"),))
        none = Store(PLAN, most=0)
        self.refused(none, Full, {"most": 0}, none.tell, 5, (staff(),))
        self.refused(none, NoDeed, {}, none.tell, 5, ())
        one = Store(PLAN, most=1)
        one.tell(5, (staff(),))
        self.refused(one, Full, {"most": 1}, one.tell, 5, (staff(),))

    def test_sixty_left_out(self):
        store = Store(PLAN)
        for number in range(60):
            store.tell(number, (put("tag", "a"),))
        self.refused(store, Full, {"most": 60}, store.tell, 60, (put("tag", "a"),))
        more = Store(PLAN, most=61)
        for number in range(61):
            more.tell(number, (put("tag", "a"),))
        self.assertEqual(len(more), 61)

    def test_early(self):
        store = self.store((3, staff()), (7, staff()))
        self.refused(store, Early, {"last": 7}, store.tell, 6, (staff(),))
        self.refused(store, Early, {"last": 7}, store.tell, 0, (staff(home="none"),))
        self.assertEqual(store.tell(7, (staff(),)), ())

    def test_broken(self):
        store = self.store((3, city(low=2, high=9)), (3, staff(low=2, high=9, home="ulm")))
        due = {"day": 5, "table": "staff", "key": "ann", "column": "home"}
        self.refused(store, Broken, due, store.tell, 3, (cut("city", "ulm", 5),))
        due["day"] = 9
        self.refused(store, Broken, due, store.tell, 4, (staff(low=4, home="ulm"),))
        due.update(day=0, key="bob", column="boss")
        self.refused(store, Broken, due, store.tell, 4, (staff("bob", home="none", boss="none"),))
        self.assertEqual(store.tell(4, (cut("city", "ulm", 5), cut("staff", "ann", 5))),
                         (("city", "ulm", 5, 9, (None,), None), ("staff", "ann", 5, 9, ("ulm", 5, None), None)))

    def test_what_breaks_amid_a_deed_stands(self):
        store = Store(PLAN)
        self.assertEqual(len(store.tell(1, (staff(home="ulm"), city()))), 2)
        self.assertEqual(store.tell(1, (cut("city", "ulm"), city())), ())

    def test_goes_on_behind_refusals(self):
        store = Store(PLAN, most=2)
        for day, steps in ((1, ()), (1, (staff(home="ulm"),))):
            outcome(store.tell, day, steps)
        store.tell(1, (city(),))
        outcome(store.tell, 0, (city(),))
        store.tell(1, (staff(home="ulm"),))
        self.assertEqual(store.deeds(), ((1, (city(),)), (1, (staff(home="ulm"),))))


class Restore(Telling):
    DEEDS = ((2, staff(low=3, high=9)), (4, cut("staff", "ann", 5, 6)), (6, staff(low=0, pay=7)), (8, cut("staff", "ann", 12)))

    def check(self, due, **named):
        """The steps of the deed that is told."""
        store = self.store(*self.DEEDS)
        ahead = store.deeds()
        told = store.restore(9, "staff", "ann", **named)
        self.assertEqual(store.deeds(), ahead + ((9, due),))
        self.assertEqual(told, outcome(self.store(*self.DEEDS).tell, 9, due))

    def test_known(self):
        first = (cut("staff", "ann", 0, 3), staff(low=3, high=9), cut("staff", "ann", 9))
        second = (cut("staff", "ann", 0, 3), staff(low=3, high=5), cut("staff", "ann", 5, 6), staff(low=6, high=9),
                  cut("staff", "ann", 9))
        last = (staff(high=12, pay=7), cut("staff", "ann", 12))
        for known, due in ((0, (cut("staff", "ann"),)), (1, (cut("staff", "ann"),)), (2, first), (3, first), (4, second),
                           (5, second), (6, (staff(pay=7),)), (7, (staff(pay=7),)), (8, last), (9, last), (LAST, last),
                           (None, last)):
            self.check(due, known=known)

    def test_low_and_high(self):
        self.check((staff(low=3, high=9), cut("staff", "ann", 9)), known=2, low=3)
        self.check((cut("staff", "ann", 0, 3), staff(low=3, high=4)), known=2, high=4)
        self.check((staff(low=4, high=5), cut("staff", "ann", 5, 6), staff(low=6, high=8)), known=4, low=4, high=8)
        self.check((cut("staff", "ann", 5, 6),), high=6, low=5, known=4)
        self.check((cut("staff", "ann", LAST),), known=2, low=LAST)
        self.check((staff(low=LAST - 1, high=LAST, pay=7),), known=6, low=LAST - 1, high=LAST)
        self.check((staff(low=LAST, pay=7),), known=6, low=LAST, high=None)

    def test_patch(self):
        store = self.store(*self.DEEDS)
        self.assertEqual(store.restore(9, "staff", "ann", known=4, low=2), (
            ("staff", "ann", 2, 3, (None, 7, None), None), ("staff", "ann", 3, 5, (None, 7, None), ANN),
            ("staff", "ann", 5, 6, (None, 7, None), None), ("staff", "ann", 6, 9, (None, 7, None), ANN),
            ("staff", "ann", 9, 12, (None, 7, None), None)))
        self.assertEqual(store.restore(9, "staff", "ann", known=None), ())
        self.assertEqual(store.restore(9, "tag", "zoe", known=0), ())
        self.assertEqual(len(store), 7)

    def test_what_is_known_today_too(self):
        store = self.store((3, staff()), (3, staff(pay=8)))
        self.assertEqual(store.restore(3, "staff", "ann", known=3), ())
        self.assertEqual(store.restore(3, "staff", "ann", known=2), (("staff", "ann", 0, None, (None, 8, None), None),))

    def test_no_deed(self):
        store = self.store((3, staff()), most=1)
        for given, named in (
                ((-1, "staff", "ann"), {}), ((True, "staff", "ann"), {}), ((None, "staff", "ann"), {}),
                ((LAST + 1, "staff", "ann"), {}), ((3, "none", "ann"), {}), ((3, "", "ann"), {}), ((3, "staff", "Ann"), {}),
                ((3, "staff", ""), {}), ((3, "staff", 5), {}), ((3, "staff", "ann"), {"known": -1}),
                ((3, "staff", "ann"), {"known": LAST + 1}), ((3, "staff", "ann"), {"known": True}),
                ((3, "staff", "ann"), {"known": "3"}), ((3, "staff", "ann"), {"low": 3, "high": 3}),
                ((3, "staff", "ann"), {"high": 0}), ((3, "staff", "ann"), {"low": None}), ((3, "staff", "ann"), {"low": -1}),
                ((3, "staff", "ann"), {"low": False}), ((3, "staff", "ann"), {"high": True}),
                ((3, "staff", "ann"), {"high": LAST + 1}), ((3, "staff", "ann"), {"low": LAST, "high": LAST})):
            self.refused(store, NoDeed, {}, store.restore, *given, **{"known": 3, **named})

    def test_no_deed_of_anything(self):
        store = self.store((3, staff()), most=1)
        for thing in odd_things():
            for at in range(3):
                given = [3, "staff", "ann"]
                given[at] = thing
                self.refused(store, NoDeed, {}, store.restore, *given, known=3)
            for name in ("known", "low", "high"):
                if thing is not None or name == "low":
                    self.refused(store, NoDeed, {}, store.restore, 3, "staff", "ann", **{"known": 3, name: thing})

    def test_refused_in_this_order(self):
        store = self.store((3, city()), (5, staff(home="ulm")), most=2)
        self.refused(store, Full, {"most": 2}, store.restore, 2, "city", "ulm", known=0)
        store = self.store((3, city()), (5, staff(home="ulm")))
        self.refused(store, Early, {"last": 5}, store.restore, 4, "city", "ulm", known=0)
        due = {"day": 4, "table": "staff", "key": "ann", "column": "home"}
        self.refused(store, Broken, due, store.restore, 5, "city", "ulm", known=2, low=4)
        self.assertEqual(store.restore(5, "city", "ulm", known=4), ())

    def test_known_is_handed_in_by_its_name(self):
        store = self.store((3, staff()))
        self.assertRaises(TypeError, store.restore, 3, "staff", "ann")
        self.assertRaises(TypeError, store.restore, 3, "staff", "ann", 3)


class Correct(Telling):
    def test_patches_that_a_store_told(self):
        one = self.store((3, city()))
        told = one.tell(4, (staff(high=7, home="ulm"), cut("city", "ulm", 9)))
        other = self.store((3, city()))
        self.assertEqual(other.correct(6, told), told)
        self.assertEqual(other.deeds()[1:], ((6, (cut("city", "ulm", 9), staff(high=7, home="ulm"))),))
        self.assertEqual(other.correct(6, undone(told)), undone(told))
        self.assertEqual(other.deeds()[2:], ((6, (city(low=9), cut("staff", "ann", 0, 7))),))
        self.assertEqual([other.line(*place) for place in PLACES],
                         [self.store((3, city())).line(*place) for place in PLACES])

    def test_steps_piece_by_piece(self):
        store = self.store((3, staff(high=9), put("tag", "a", (), 2)))
        pieces = (("city", "ulm", 0, 4, None, ("x",)), ("city", "ulm", 4, None, None, (-7,)),
                  ("staff", "ann", 2, 4, ANN, None), ("staff", "ann", 4, 6, ANN, (None, None, None)),
                  ("staff", "bob", 0, 1, None, ANN), ("tag", "a", 1, 2, None, ()), ("tag", "a", 5, 6, (), None))
        self.assertEqual(store.correct(3, pieces), pieces)
        self.assertEqual(store.deeds()[1], (3, (
            city(high=4, land="x"), city(low=4, land=-7), cut("staff", "ann", 2, 4), staff(low=4, high=6, pay=None),
            staff("bob", high=1), put("tag", "a", (), 1, 2), cut("tag", "a", 5, 6))))

    def test_no_fit(self):
        store = self.store((3, staff(low=2, high=9), staff(low=4, high=6, pay=7), put("tag", "a", (), 3)))
        sevens = (None, 7, None)

        def check(place, *pieces):
            self.refused(store, NoFit, dict(zip(("table", "key", "day"), place)), store.correct, 3, pieces)
        check(("staff", "ann", 1), ("staff", "ann", 1, 4, ANN, None))
        check(("staff", "ann", 4), ("staff", "ann", 2, 9, ANN, None))
        check(("staff", "ann", 6), ("staff", "ann", 4, 9, sevens, None))
        check(("staff", "ann", 9), ("staff", "ann", 6, None, ANN, None))
        check(("staff", "ann", 2), ("staff", "ann", 0, None, None, ANN))
        check(("staff", "ann", 2), ("staff", "ann", 2, 4, (None, 6, None), ANN))
        check(("staff", "bob", 5), ("staff", "bob", 5, None, ANN, None))
        check(("tag", "a", 2), ("tag", "a", 2, 3, (), None))
        check(("tag", "a", 3), ("tag", "a", 3, 4, None, ()))
        check(("staff", "ann", 6), ("staff", "ann", 4, 6, sevens, ANN), ("staff", "ann", 6, 7, sevens, None),
              ("staff", "bob", 0, 1, ANN, None))
        check(("city", "ulm", 8), ("city", "ulm", 8, 9, (None,), None), ("staff", "ann", 0, 1, ANN, None))
        check(("tag", "a", 0), ("staff", "ann", 0, 2, None, ANN), ("tag", "a", 0, 1, (), None))
        check(("tag", "a", LAST), ("tag", "a", LAST, None, None, ()))

    def test_no_deed(self):
        store = self.store((3, staff()), most=1)
        piece = ("staff", "ann", 0, 4, ANN, None)
        self.refused(store, NoDeed, {}, store.correct, 3, ())
        for day in (-1, True, None, LAST + 1, "3"):
            self.refused(store, NoDeed, {}, store.correct, day, (piece,))
        for at, parts in ((0, ("none", "", None, 1)), (1, ("Ann", "", None, 1, "abcdefghi")), (2, (-1, 4, 5, None, True)),
                          (3, (0, -1, True, LAST + 1)),
                          (4, (None, (), (None, 5), (None, True, None), (1, 5, None), [None, 5, None], 5, False)),
                          (5, (ANN, (), (None, 5), (None, True, None), (None, 5, 1), [None, 6, None], 5, False))):
            for part in parts:
                wrong = piece[:at] + (part,) + piece[at + 1:]
                self.refused(store, NoDeed, {}, store.correct, 3, (wrong,))
        for wrong in (piece[:-1], piece + (None,), list(piece), "piece", None, (piece,)):
            self.refused(store, NoDeed, {}, store.correct, 3, (wrong,))
        for wrong in ([piece], piece, None, "patch", {piece: True}):
            self.refused(store, NoDeed, {}, store.correct, 3, wrong)

    def test_no_deed_as_it_is_no_patch(self):
        store = self.store((3, staff()), most=1)
        early = ("staff", "ann", 0, 4, ANN, None)
        sixes = (None, 6, None)
        for other in (("staff", "ann", 4, 6, ANN, None), ("staff", "ann", 3, 6, ANN, None), ("staff", "ann", 2, 3, ANN, sixes),
                      early, ("staff", "ann", 0, 4, ANN, sixes), ("city", "ulm", 0, 4, None, (None,)),
                      ("staff", "amy", 6, 7, None, ANN), ("staff", "ann", 3, 4, ANN, sixes)):
            self.refused(store, NoDeed, {}, store.correct, 3, (early, other))
        endless = ("staff", "ann", 0, None, ANN, None)
        self.refused(store, NoDeed, {}, store.correct, 3, (endless, ("staff", "ann", 4, 6, ANN, sixes)))
        touching = (early, ("staff", "ann", 4, 6, ANN, sixes), ("staff", "ann", 7, 8, ANN, sixes))
        self.assertEqual(self.store((3, staff())).correct(3, touching), touching)

    def test_no_deed_of_anything(self):
        store = self.store((3, staff()), most=1)
        piece = ("staff", "ann", 0, 4, ANN, None)
        for thing in odd_things():
            self.refused(store, NoDeed, {}, store.correct, thing, (piece,))
            for wrong in (thing, (thing,), (piece, thing), (thing, piece)):
                self.refused(store, NoDeed, {}, store.correct, 3, wrong)
            for at in range(6):
                if thing is not None or at not in (3, 5):
                    wrong = piece[:at] + (thing,) + piece[at + 1:]
                    self.refused(store, NoDeed, {}, store.correct, 3, (wrong,))
            self.refused(store, NoDeed, {}, store.correct, 3, (piece[:4] + ((None, thing, None), (None, thing, None)),))

    def test_refused_in_this_order(self):
        ends = (("city", "ulm", 4, None, (None,), None),)
        wrong = (("city", "ulm", 4, None, (8,), None),)
        full = self.store((3, city()), (5, staff(home="ulm")), most=2)
        self.refused(full, Full, {"most": 2}, full.correct, 2, wrong)
        self.refused(full, NoDeed, {}, full.correct, 2, wrong + wrong)
        store = self.store((3, city()), (5, staff(home="ulm")))
        self.refused(store, Early, {"last": 5}, store.correct, 4, wrong)
        self.refused(store, NoFit, {"table": "city", "key": "ulm", "day": 4}, store.correct, 5, wrong)
        due = {"day": 4, "table": "staff", "key": "ann", "column": "home"}
        self.refused(store, Broken, due, store.correct, 5, ends)

    def test_two_of_unlike_pieces_in_either_order(self):
        led = 0
        for chance in chances(150, 90):
            deeds = tell_some(chance, Store(PLAN), 5).deeds()
            stores = [Store(PLAN) for number in range(4)]
            for store in stores:
                store.tell_all(deeds)
            here, there = [outcome(store.tell, 50, random_steps(chance, 2)) for store in stores[:2]]
            if not is_told(here) or not is_told(there):
                continue
            one = [outcome(stores[2].correct, 60, part) for part in (here, there)]
            other = [outcome(stores[3].correct, 60, part) for part in (there, here)]
            if is_told(one[1]) and is_told(other[1]):
                led += 1
                self.assertEqual([stores[2].line(*place) for place in PLACES],
                                 [stores[3].line(*place) for place in PLACES])
                self.assertEqual(followed(one[0], one[1]), followed(other[0], other[1]))
        self.assertGreater(led, 25)


class Answers(Telling):
    DEEDS = ((2, (staff(), staff("bob", 3, 8, pay=-4))), (2, (cut("staff", "ann", 5),)), (6, (staff("bob", pay="x"),)))

    def setUp(self):
        self.told = Store(PLAN)
        self.told.tell_all(self.DEEDS)

    def test_deeds(self):
        self.assertEqual(Store(PLAN).deeds(), ())
        self.assertEqual(self.told.deeds(), self.DEEDS)

    def test_line(self):
        self.assertEqual(self.told.line("staff", "bob"), ((0, None, (None, "x", None)),))
        self.assertEqual(self.told.line("staff", "bob", known=None), ((0, None, (None, "x", None)),))
        self.assertEqual(self.told.line("staff", "bob", known=5), ((3, 8, (None, -4, None)),))
        self.assertEqual(self.told.line("staff", "ann", known=1), ())
        self.assertEqual(self.told.line("staff", "ann", known=2), ((0, 5, ANN),))
        self.assertEqual(self.told.line("tag", "ann"), ())
        self.assertEqual(self.told.line("staff", "zoe", known=LAST), ())
        self.assertRaises(TypeError, self.told.line, "staff", "bob", 5)

    def test_rows(self):
        both = (("ann", ANN), ("bob", (None, "x", None)))
        self.assertEqual(self.told.rows("staff", 4), both)
        self.assertEqual(self.told.rows("staff", 4, known=None, only=None), both)
        self.assertEqual(self.told.rows("staff", 4, known=5), (("ann", ANN), ("bob", (None, -4, None))))
        self.assertEqual(self.told.rows("staff", 5, known=2), (("bob", (None, -4, None)),))
        self.assertEqual(self.told.rows("staff", 4, known=1), ())
        self.assertEqual(self.told.rows("tag", 4), ())
        self.assertEqual(self.told.rows("staff", LAST), both[1:])

    def test_only(self):
        asked = []

        def only(key, worths):
            asked.append((key, worths))
            return worths[1] == "x"
        self.assertEqual(self.told.rows("staff", 4, only=only), (("bob", (None, "x", None)),))
        self.assertEqual(asked, [("ann", ANN), ("bob", (None, "x", None))])
        self.assertEqual(self.told.rows("staff", 4, only=only, known=5), ())
        self.assertEqual(self.told.rows("staff", 4, only=lambda key, worths: True), self.told.rows("staff", 4))
        self.assertEqual(self.told.rows("staff", 4, only=lambda key, worths: key < "b"), (("ann", ANN),))
        self.assertRaises(ZeroDivisionError, self.told.rows, "staff", 4, only=lambda key, worths: 1 // 0)
        self.assertEqual(len(self.told), 3)

    def test_only_may_tell_a_deed(self):
        def only(key, worths):
            self.told.tell(9, (cut("staff", "bob"),))
            return True
        self.assertEqual(len(self.told.rows("staff", 4, only=only)), 2)
        self.assertEqual(self.told.rows("staff", 4), (("ann", ANN),))

    def test_no_table(self):
        for thing in odd_things() + ["none", "staffs", "staf", 5, ("staff",), ["staff"]]:
            for ask in (lambda: self.told.line(thing, "ann"), lambda: self.told.rows(thing, 4),
                        lambda: self.told.line(thing, "ann", known=3),
                        lambda: self.told.rows(thing, 4, known=3, only=lambda key, worths: 1 // 0)):
                with self.assertRaises(NoTable) as caught:
                    ask()
                self.assertIs(type(caught.exception), NoTable)
                self.assertIs(caught.exception.name, thing)

    def test_as_the_deeds_tell(self):
        for chance in chances(30, 91):
            store = tell_some(chance, Store(PLAN))
            for known in (None, 0, 3, 6):
                for table, key in PLACES:
                    self.assertEqual(store.line(table, key, known=known), line_of(store.deeds(), table, key, known=known))
                    self.assertEqual(store.rows(table, 5, known=known), rows_at(store.deeds(), table, 5, known=known))

    def test_len_and_repr(self):
        self.assertEqual((len(Store(PLAN)), repr(Store(PLAN))), (0, "Store(0)"))
        self.assertEqual((len(self.told), repr(self.told)), (3, "Store(3)"))
        many = Store(PLAN)
        many.tell_all(((1, (put("tag", "a"),)),) * 12)
        self.assertEqual((len(many), repr(many)), (12, "Store(12)"))

    def test_str(self):
        self.assertEqual(str(Store(PLAN)), "")
        self.assertEqual(str(self.told), log_text(self.DEEDS))
        self.assertEqual(str(self.told), "on 2\nput staff ann 0 - - 5 -\nput staff bob 3 8 - -4 -\nend 54\n"
                                         "on 2\ncut staff ann 5 -\nend 23\non 6\nput staff bob 0 - - x -\nend 29\n")

    def test_equal(self):
        again = Store(PLAN, most=3)
        self.assertTrue(Store(PLAN) == Store(PLAN, most=0))
        self.assertFalse(again == self.told)
        self.assertTrue(again != self.told)
        again.tell_all(self.DEEDS)
        self.assertTrue(again == self.told and self.told == again)
        self.assertFalse(again != self.told)
        again.keep("v", ("rows", "tag"))
        self.assertTrue(again == self.told)
        parts = Store(PLAN)
        for day, steps in self.DEEDS:
            for step in steps:
                parts.tell(day, (step,))
        self.assertFalse(parts == self.told)

    def test_equal_with_another_plan(self):
        other = Store(PLAN[:2])
        self.assertFalse(other == Store(PLAN))
        other.tell_all(self.DEEDS)
        self.assertFalse(other == self.told)
        self.assertTrue(other != self.told)

    def test_equal_with_other_things(self):
        for thing in odd_things() + [3, "Store(3)", str(self.told), self.DEEDS, (PLAN, self.DEEDS), Store]:
            self.assertIs(self.told == thing, False)
            self.assertIs(Store(PLAN) == thing, False)
        self.assertIs(self.told == Odd(), False)


class Promise(Telling):
    def test_as_a_store_that_walks(self):
        kinds = {}
        for chance in chances(90, 92):
            most = chance.choice([60, 60, 60, 5])
            store = Store(PLAN, most=most)
            plain = Plain(most)
            for number in range(10):
                told = self.some_deed(chance, store, plain)
                kind = told[0] if told and isinstance(told[0], str) else "told"
                kinds[kind] = kinds.get(kind, 0) + 1
                self.assertEqual(store.deeds(), plain.deeds)
            self.assertIsNone(plain_broken(PLAN, plain.deeds, None, range(DAYS)))
        self.assertTrue(all(kinds.get(kind, 0) > 8 for kind in ("told", "Full", "Early", "NoFit", "Broken")), kinds)

    def some_deed(self, chance, store, plain):
        """Tell the same deed of any sort to both: both answer alike."""
        day = next_day(chance, store.deeds())
        sort = chance.choice(["tell", "tell", "tell", "restore", "correct", "correct"])
        given, named = (day, random_steps(chance)), {}
        if sort == "restore":
            given = (day, *chance.choice(PLACES))
            named = {"known": chance.choice([None, 1, 3, 5, day]), **random_span(chance)}
        if sort == "correct":
            known = chance.choice([1, 3, 5])
            pieces = undone(patch(store.deeds(), early=known)) if chance.random() < 0.7 else patch(store.deeds(), late=known)
            given = (day, pieces or (("tag", "aa", 2, 5, None, ()),))
        told = outcome(getattr(store, sort), *given, **named)
        self.assertEqual(told, getattr(plain, sort)(*given, **named), (sort, given, named))
        return told

    def test_what_was_known_stays_so(self):
        for chance in chances(40, 93):
            store = tell_some(chance, Store(PLAN), 5)
            last = store.deeds()[-1][0] if store.deeds() else 0

            def known():
                return [(store.line(*place, known=day), store.rows(place[0], 5, known=day))
                        for place in PLACES for day in range(last + 1)]
            ahead = known()
            for number in range(6):
                day = last + 1 + number
                outcome(store.tell, day, random_steps(chance))
                outcome(store.restore, day, *chance.choice(PLACES), known=chance.randrange(last + 1))
                outcome(store.correct, day, undone(patch(store.deeds(), early=last)))
            self.assertEqual(known(), ahead)

    def test_deeds_of_one_day_lead_where_one_of_all_steps_leads(self):
        for chance in chances(40, 94):
            parts = Store(PLAN)
            for number in range(6):
                outcome(parts.tell, 4, random_steps(chance))
            whole = Store(PLAN)
            whole.tell(4, sum((steps for day, steps in parts.deeds()), ()) or (put("tag", "a"),))
            if len(parts):
                self.assertEqual([whole.line(*place) for place in PLACES], [parts.line(*place) for place in PLACES])

    def test_patches_compose_and_lead_back(self):
        for chance in chances(40, 95):
            store = Store(PLAN)
            told = ()
            for number in range(6):
                changes = outcome(store.tell, next_day(chance, store.deeds()), random_steps(chance))
                if not changes or not isinstance(changes[0], str):
                    told = followed(told, changes)
            self.assertEqual(told, patch(store.deeds()))
            if told:
                store.correct(LAST, undone(told))
                self.assertEqual([store.line(*place) for place in PLACES], [()] * len(PLACES))

    def test_references_hold_on_each_known_day(self):
        for chance in chances(30, 96):
            store = tell_some(chance, Store(PLAN), 10)
            for day in range(store.deeds()[-1][0] + 1 if store.deeds() else 0):
                self.assertIsNone(broken(PLAN, store.deeds(), known=day))


class Soon(Telling):
    def test_sixty_deeds_of_far_days(self):
        began = time.process_time()
        store = Store(PLAN)
        names = [first + second for first in "abcdefghij" for second in "abcde"]
        for number in range(40):
            steps = tuple(staff(names[number], (number * 4 + place) * 10 ** 9, LAST - number * 7, pay=place)
                          for place in range(4))
            store.tell(number * 10 ** 9, steps)
        self.assertEqual(len(store.rows("staff", LAST // 2)), 40)
        for number in range(10):
            self.assertTrue(store.restore(10 ** 11, "staff", names[number], known=10 ** 9 * 5, low=number, high=LAST // 2)
                            or number < 6)
        for number in range(5):
            changes = store.tell(LAST, (cut("staff", names[30 + number], number, LAST - number),))
            self.assertEqual(store.correct(LAST, undone(changes)), undone(changes))
        self.assertEqual(len(store), 60)
        self.assertLess(time.process_time() - began, 10)

    def test_two_hundred_steps_of_one_key(self):
        began = time.process_time()
        store = Store(PLAN)
        for number in range(50):
            store.tell(number, tuple(staff("ann", (number * 4 + place) * 10 ** 9 + 1, (number * 4 + place + 1) * 10 ** 9,
                                           pay=place) for place in range(4)))
        self.assertEqual(len(store.line("staff", "ann")), 200)
        for number in range(10):
            self.assertTrue(store.restore(60, "staff", "ann", known=4 * number + 7))
            self.assertEqual(store.line("staff", "ann"), store.line("staff", "ann", known=4 * number + 7))
        self.assertLess(time.process_time() - began, 10)


if __name__ == "__main__":
    unittest.main()
