"""Points 2, 4 (g) and 11: several deeds told at once, all of them or none."""

import unittest

from bothtimes.errors import Broken, Busy, Early, Full, NoDeed, NoView
from bothtimes.merging import merged
from bothtimes.store import Store
from tests.samples import LAST, chances, odd_things
from tests.stores import (PLACES, PLAN, city, cut, next_day, outcome, put, random_steps, staff, tell_some)

ANN = (None, 5, None)
ROWS = ("rows", "staff")


def state(store):
    """All that a store tells of itself."""
    views = [(name, store.view(name), store.touched(name)) for name in store.views()]
    lines = [store.line(table, key, known=known) for table, key in PLACES + [("staff", "ann"), ("city", "ulm")]
             for known in (None, 1, 4)]
    rows = [store.rows(table, day) for table in ("city", "staff", "tag") for day in (0, 5, LAST)]
    return (store.deeds(), len(store), repr(store), str(store), views, lines, rows)


def begun():
    """A store with deeds and with views, one of them kept behind all deeds."""
    store = Store(PLAN, most=6)
    store.tell(1, (city(),))
    store.keep("early", ROWS)
    store.tell(3, (staff(home="ulm"),))
    store.keep("late", ("count", ROWS, ()))
    return store


class All(unittest.TestCase):
    def test_none(self):
        store = begun()
        ahead = state(store)
        self.assertEqual(store.tell_all(()), ())
        self.assertEqual(store.tell_all((), each=lambda changes: 1 // 0), ())
        self.assertEqual(state(store), ahead)
        self.assertEqual(ahead[4][0][2], ((("ann", "ulm", 5, None), 0, None, 1),))

    def test_one_and_many(self):
        store = Store(PLAN)
        self.assertEqual(store.tell_all(((3, (staff(),)),)), ((("staff", "ann", 0, None, None, ANN),),))
        told = store.tell_all(((3, (staff(),)), (3, (staff(high=4, pay=7),)), (LAST, (cut("staff", "ann"),))))
        sevens = (None, 7, None)
        self.assertEqual(told, ((), (("staff", "ann", 0, 4, ANN, sevens),),
                                (("staff", "ann", 0, 4, sevens, None), ("staff", "ann", 4, None, ANN, None))))
        self.assertEqual(len(store), 4)

    def test_as_tell(self):
        for chance in chances(30, 100):
            deeds = tell_some(chance, Store(PLAN)).deeds()
            at_once, one_by_one = Store(PLAN), Store(PLAN)
            handed = []
            told = at_once.tell_all(deeds, each=handed.append)
            self.assertEqual(told, tuple(one_by_one.tell(*deed) for deed in deeds))
            self.assertEqual(handed, list(told))
            self.assertTrue(at_once == one_by_one)
            self.assertEqual(state(at_once), state(one_by_one))

    def test_each_by_its_name_alone(self):
        self.assertRaises(TypeError, Store(PLAN).tell_all, (), None)


class Refused(unittest.TestCase):
    def check(self, kind, values, deeds):
        """Refused with each handed in, and without; all is as ahead, and the store takes deeds again."""
        for named in ({}, {"each": None}, {"each": lambda changes: None}):
            store = begun()
            ahead = state(store)
            with self.assertRaises(kind) as caught:
                store.tell_all(deeds, **named)
            self.assertIs(type(caught.exception), kind)
            self.assertEqual(vars(caught.exception), values)
            self.assertEqual(state(store), ahead)
            self.goes_on(store)

    def goes_on(self, store):
        """It takes deeds, keeps and drops as ever."""
        touched = store.touched("early")
        bob = ("staff", "bob", 0, None, None, ANN)
        self.assertEqual(store.tell_all(((3, (put("tag", "a"), staff("bob"))),)), ((bob, ("tag", "a", 0, None, None, ())),))
        self.assertEqual(store.touched("early"), ((("bob", None, 5, None), 0, None, 1),))
        home = {"day": 0, "table": "staff", "key": "ann", "column": "home"}
        self.assertEqual(outcome(store.tell, 3, (cut("city", "ulm"),)), ("Broken", home))
        store.tell(3, (put("tag", "b"),))
        self.assertEqual(store.touched("early"), ())
        self.assertNotEqual(touched, ())
        self.assertEqual(store.tell(LAST, (staff("zoe"),)), (("staff", "zoe", 0, None, None, ANN),))
        self.assertEqual(store.touched("early"), ((("zoe", None, 5, None), 0, None, 1),))
        store.keep("more", ROWS)
        store.drop("more")
        self.assertEqual(store.views(), ("early", "late"))

    def test_no_tuple_of_pairs(self):
        good = (3, (put("tag", "a"),))
        for wrong in ([good], good, (good, None), (good, good + (1,)), (good, list(good)), (good, (3,)), ((),), "deeds", None,
                      3, {good: True}, (good, "ab"), (good, ["a", "b"])):
            self.check(NoDeed, {}, wrong)

    def test_no_tuple_of_pairs_is_seen_ahead_of_all_deeds(self):
        store = begun()
        handed = []
        self.assertRaises(NoDeed, store.tell_all, ((0, ()), (3, (put("tag", "a"),), 1)), each=handed.append)
        self.assertRaises(NoDeed, store.tell_all, ((0, (city(),)), None), each=handed.append)
        self.assertEqual(handed, [])

    def test_of_anything(self):
        good = (3, (put("tag", "a"),))
        for thing in odd_things():
            store = begun()
            ahead = state(store)
            for wrong in (thing, (thing,), (good, thing), (good, (3, thing)), (good, (thing, good[1])), (good, (3, (thing,)))):
                self.assertRaises(NoDeed, store.tell_all, wrong)
            self.assertEqual(state(store), ahead)

    def test_refused_amid_others(self):
        good = (3, (put("tag", "a"), staff("bob", home="ulm")))
        home = {"day": 4, "table": "staff", "key": "bob", "column": "home"}
        for deeds, kind, values in (
                (((3, ()),), NoDeed, {}), ((("x", ()),), NoDeed, {}), (((3, (put("none", "a"),)),), NoDeed, {}),
                (((2, (city(),)),), Early, {"last": 3}), ((good, good, good), Full, {"most": 6}),
                (((4, (cut("city", "ulm", 4), cut("staff", "ann"))),), Broken, home)):
            self.check(kind, values, (good, good) + deeds)
            self.check(kind, values, (good, good) + deeds + (good,))
            self.check(kind, values, (good, good) + deeds + ((1, ()),))

    def test_each_is_asked_of_the_deeds_ahead(self):
        store = begun()
        handed = []
        deeds = ((3, (put("tag", "a"),)), (3, (put("tag", "a"),)), (2, (put("tag", "b"),)))
        self.assertRaises(Early, store.tell_all, deeds, each=handed.append)
        self.assertEqual(handed, [(("tag", "a", 0, None, None, ()),), ()])

    def test_early_by_the_last_deed_of_these(self):
        self.check(Early, {"last": 9}, ((9, (put("tag", "a"),)), (8, (put("tag", "a"),))))

    def test_by_chance(self):
        refused = 0
        for chance in chances(80, 101):
            store = tell_some(chance, Store(PLAN, most=8), 3)
            store.keep("v", ("count", ROWS, ("home",)))
            tell_some(chance, store, 2)
            ahead = state(store)
            day = next_day(chance, store.deeds())
            deeds = tuple((day, random_steps(chance)) for number in range(1 + chance.randrange(4)))
            again = Store(PLAN, most=8)
            again.tell_all(store.deeds())
            due = [outcome(again.tell, *deed) for deed in deeds]
            wrong = [told for told in due if told and isinstance(told[0], str)]
            told = outcome(store.tell_all, deeds)
            refused += bool(wrong)
            self.assertEqual(told, wrong[0] if wrong else tuple(due))
            if wrong:
                self.assertEqual(state(store), ahead)
                again = Store(PLAN, most=8)
                again.tell_all(store.deeds())
                for deed in deeds:
                    self.assertEqual(outcome(store.tell, *deed), outcome(again.tell, *deed))
        self.assertTrue(20 < refused < 70, refused)


class Odd(BaseException):
    """Of a class that no handler names."""


class Each(unittest.TestCase):
    DEEDS = ((3, (put("tag", "a"),)), (4, (staff("bob"), cut("tag", "a", 7))), (4, (cut("tag", "a"), cut("tag", "b"))))

    def test_the_store_answers_by_the_deeds_told_so_far(self):
        store = begun()
        plain = begun()
        seen = []

        def each(changes):
            seen.append(changes)
            self.assertEqual(changes, plain.tell(*self.DEEDS[len(seen) - 1]))
            self.assertEqual(state(store), state(plain))
            self.assertTrue(store == plain)
            self.assertTrue(merged(store, plain) == plain)
        self.assertEqual(store.tell_all(self.DEEDS, each=each), tuple(seen))
        self.assertEqual(len(seen), 3)
        self.assertEqual(state(store), state(plain))

    def test_busy(self):
        store = begun()
        asks = (
            lambda: store.tell(9, (put("tag", "c"),)), lambda: store.tell("x", None), lambda: store.tell(0, (city(),)),
            lambda: store.restore(9, "tag", "a", known=None), lambda: store.restore(None, 5, (), known="x", low=-1),
            lambda: store.correct(9, (("tag", "z", 0, None, None, ()),)), lambda: store.correct([], ()),
            lambda: store.tell_all(()), lambda: store.tell_all(((9, (put("tag", "c"),)),)), lambda: store.tell_all([None]),
            lambda: store.tell_all((), each=each), lambda: store.keep("new", ROWS), lambda: store.keep("early", ROWS),
            lambda: store.keep(None, None), lambda: store.drop("early"), lambda: store.drop("none"), lambda: store.drop([]),
        )
        seen = []

        def each(changes):
            ahead = state(store)
            for ask in asks:
                with self.assertRaises(Busy) as caught:
                    ask()
                self.assertIs(type(caught.exception), Busy)
                self.assertEqual(vars(caught.exception), {})
            self.assertEqual(state(store), ahead)
            self.assertRaises(NoView, store.view, "none")
            seen.append(changes)
        self.assertEqual(store.tell_all(self.DEEDS, each=each), tuple(seen))
        self.assertEqual((len(seen), len(store), store.views()), (3, 5, ("early", "late")))
        store.keep("new", ROWS)
        store.tell(9, (put("tag", "c"),))

    def test_busy_though_full(self):
        store = Store(PLAN, most=1)

        def each(changes):
            self.assertRaises(Busy, store.tell, 0, (city(),))
        store.tell_all(((3, (city(),)),), each=each)
        self.assertRaises(Full, store.tell, 3, (city(),))

    def test_another_store_is_free(self):
        store, other = begun(), begun()
        store.tell_all(self.DEEDS, each=lambda changes: other.tell(5, (put("tag", "c"),)))
        self.assertEqual(len(other), 5)

    def test_what_each_raises_goes_on(self):
        for raised in (ValueError("x"), KeyError(3), Odd(), KeyboardInterrupt(), SystemExit(2), StopIteration(), GeneratorExit(),
                       RuntimeError(), NoDeed(), Full(3), Busy(), NoView("x"), AssertionError(), MemoryError()):
            for at in range(3):
                store = begun()
                ahead = state(store)
                seen = []

                def each(changes):
                    seen.append(changes)
                    if len(seen) == at + 1:
                        raise raised
                with self.assertRaises(type(raised)) as caught:
                    store.tell_all(self.DEEDS, each=each)
                self.assertIs(caught.exception, raised)
                self.assertEqual(len(seen), at + 1)
                self.assertEqual(state(store), ahead)
                store.keep("new", ROWS)
                store.drop("new")
                self.assertEqual(store.tell_all(self.DEEDS), begun().tell_all(self.DEEDS))
                self.assertEqual(len(store), 5)

    def test_busy_that_goes_out_of_each(self):
        store = begun()
        ahead = state(store)
        self.assertRaises(Busy, store.tell_all, self.DEEDS, each=lambda changes: store.tell(9, (city(),)))
        self.assertEqual(state(store), ahead)
        self.assertRaises(Busy, store.tell_all, self.DEEDS, each=lambda changes: store.drop("early"))
        self.assertEqual(state(store), ahead)
        store.tell(3, (put("tag", "c"),))

    def test_each_that_is_no_def(self):
        store = begun()
        ahead = state(store)
        self.assertRaises(TypeError, store.tell_all, self.DEEDS, each=5)
        self.assertRaises(TypeError, store.tell_all, self.DEEDS, each=lambda: None)
        self.assertEqual(state(store), ahead)
        store.tell(3, (put("tag", "c"),))

    def test_what_each_tells_counts_for_nothing(self):
        for told in (False, 0, (), "x", Odd()):
            store = begun()
            self.assertEqual(len(store.tell_all(self.DEEDS, each=lambda changes: told)), 3)

    def test_two_stores_within_one_another(self):
        store, other = begun(), begun()
        ahead = state(other)

        def inner(changes):
            self.assertRaises(Busy, store.tell, 9, (city(),))
            self.assertRaises(Busy, other.tell, 9, (city(),))
            raise Odd()

        def outer(changes):
            self.assertRaises(Odd, other.tell_all, self.DEEDS, each=inner)
            self.assertEqual(state(other), ahead)
            self.assertRaises(Busy, store.tell, 9, (city(),))
        store.tell_all(self.DEEDS, each=outer)
        self.assertEqual(len(store), 5)


if __name__ == "__main__":
    unittest.main()
