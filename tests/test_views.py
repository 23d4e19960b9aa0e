"""Points 4 (f) and 14: views kept through deeds."""

import time
import unittest

from bothtimes.answers import answer
from bothtimes.errors import NoQuestion, NoView, Twice
from bothtimes.patches import patch, undone
from bothtimes.spans import spans
from bothtimes.store import Store
from tests import asked
from tests.asked import in_order, random_question
from tests.samples import LAST, chances, line_from, odd_things, random_row_step
from tests.stores import PLAN, all_rows, city, cut, outcome, put, staff

ROWS = ("rows", "staff")
KEPT = ("keep", ROWS, ("pay",))
DAYS = 24


class Keep(unittest.TestCase):
    def refused(self, kind, values, ask, *given):
        with self.assertRaises(kind) as caught:
            ask(*given)
        self.assertIs(type(caught.exception), kind)
        self.assertEqual(vars(caught.exception), values)

    def test_names_rise(self):
        store = Store(PLAN)
        self.assertEqual(store.views(), ())
        for name in ("b", "abcdefgh", "c", "ab", "rows", "a"):
            self.assertIsNone(store.keep(name, ROWS))
        self.assertEqual(store.views(), ("a", "ab", "abcdefgh", "b", "c", "rows"))
        self.assertIsNone(store.drop("b"))
        self.assertEqual(store.views(), ("a", "ab", "abcdefgh", "c", "rows"))

    def test_no_question(self):
        store = Store(PLAN)
        store.keep("v", ROWS)
        for name in ("", "V", "v1", "abcdefghi", 5, None, ("v",)):
            self.refused(NoQuestion, {}, store.keep, name, ROWS)
        for question in (None, (), ("rows",), ("rows", "none"), ["rows", "staff"], ("where", ROWS, "none", 1),
                         ("where", ROWS, "pay", True), ("keep", ROWS, ()), ("keep", ROWS, ["pay"]), "rows staff",
                         ("join", ROWS, "home", "staff")):
            self.refused(NoQuestion, {}, store.keep, "w", question)
            self.refused(NoQuestion, {}, store.keep, "v", question)
        deep = ROWS
        for number in range(5):
            deep = ("above", deep, "pay", 1)
        store.keep("deep", deep)
        self.refused(NoQuestion, {}, store.keep, "deeper", ("above", deep, "pay", 1))
        self.assertEqual(store.views(), ("deep", "v"))

    def test_no_question_of_anything(self):
        store = Store(PLAN)
        for thing in odd_things():
            for name, question in ((thing, ROWS), ("v", thing), (thing, thing), ("v", ("where", ROWS, "pay", thing)),
                                   ("v", ("rows", thing)), ("v", ("keep", ROWS, thing)), ("v", ("count", thing, ())),
                                   ("v", (thing, ROWS, "pay", 1)), ("v", ("top", ROWS, (thing,), "pay"))):
                if not (thing is None and question == ("where", ROWS, "pay", None)):
                    self.refused(NoQuestion, {}, store.keep, name, question)
        self.assertEqual(store.views(), ())

    def test_twice(self):
        store = Store(PLAN)
        store.keep("v", ROWS)
        store.tell(3, (staff(),))
        self.refused(Twice, {"name": "v"}, store.keep, "v", ROWS)
        self.refused(Twice, {"name": "v"}, store.keep, "v", ("rows", "tag"))
        self.assertEqual(store.touched("v"), ((("ann", None, 5, None), 0, None, 1),))
        store.drop("v")
        store.keep("v", ("rows", "tag"))
        self.assertEqual(store.view("v"), ())

    def test_no_view(self):
        store = Store(PLAN)
        store.keep("v", ROWS)
        for ask in (store.drop, store.view, store.touched):
            for thing in odd_things() + ["w", "vv", 5, ("v",), ["v"], b"v"]:
                with self.assertRaises(NoView) as caught:
                    ask(thing)
                self.assertIs(type(caught.exception), NoView)
                self.assertIs(caught.exception.name, thing)
        self.assertEqual(store.views(), ("v",))
        store.drop("v")
        for ask in (store.drop, store.view, store.touched):
            self.refused(NoView, {"name": "v"}, ask, "v")

    def test_views_count_for_nothing(self):
        store = Store(PLAN)
        store.keep("v", ROWS)
        self.assertTrue(store == Store(PLAN))
        self.assertEqual((len(store), repr(store), str(store)), (0, "Store(0)", ""))


class View(unittest.TestCase):
    def test_spans_of_all_known(self):
        store = Store(PLAN)
        store.keep("v", KEPT)
        self.assertEqual(store.view("v"), ())
        store.tell(3, (staff(low=2, high=9), staff("bob", 9, 12)))
        self.assertEqual(store.view("v"), (((5,), 2, 12),))
        store.tell(3, (staff("bob", 4, 6, pay=None), cut("staff", "bob", 10)))
        self.assertEqual(store.view("v"), (((None,), 4, 6), ((5,), 2, 10)))
        store.restore(4, "staff", "bob", known=2)
        self.assertEqual(store.view("v"), (((5,), 2, 9),))
        store.correct(4, (("staff", "ann", 2, 9, (None, 5, None), (None, 8, None)),))
        self.assertEqual(store.view("v"), (((8,), 2, 9),))

    def test_kept_behind_deeds(self):
        store = Store(PLAN)
        store.tell(3, (staff(low=2, high=9),))
        store.keep("v", KEPT)
        self.assertEqual(store.view("v"), (((5,), 2, 9),))


class Touched(unittest.TestCase):
    def setUp(self):
        self.store = Store(PLAN)
        self.store.keep("v", KEPT)

    def check(self, *due):
        self.assertEqual(self.store.touched("v"), due)

    def test_no_deed_since(self):
        self.check()
        self.store.tell(3, (staff(),))
        self.store.keep("w", KEPT)
        self.assertEqual(self.store.touched("w"), ())
        self.check(((5,), 0, None, 1))

    def test_by_the_last_deed(self):
        self.store.tell(3, (staff(low=2, high=9),))
        self.check(((5,), 2, 9, 1))
        self.store.tell(3, (staff("bob", 5, 12),))
        self.check(((5,), 9, 12, 1))
        self.store.tell(3, (cut("staff", "ann"),))
        self.check(((5,), 2, 5, 0))
        self.store.tell(4, (put("tag", "a"),))
        self.check()
        self.store.tell(4, (staff("bob", 5, 12),))
        self.check()

    def test_both_sides(self):
        self.store.tell(3, (staff(low=2, high=9), staff("bob", 20)))
        self.store.tell(3, (staff("ann", 4, 6, pay=7), staff("ann", 8, 11, pay=None), cut("staff", "bob", 30, 40)))
        self.check(((None,), 8, 11, 1), ((5,), 4, 6, 0), ((5,), 8, 9, 0), ((5,), 30, 40, 0), ((7,), 4, 6, 1))

    def test_one_row_that_comes_where_it_goes(self):
        self.store.tell(3, (staff(low=2, high=6),))
        self.store.tell(3, (cut("staff", "ann"), staff(low=6, high=9)))
        self.check(((5,), 2, 6, 0), ((5,), 6, 9, 1))
        self.store.tell(3, (cut("staff", "ann"), staff(low=4, high=8)))
        self.check(((5,), 4, 6, 1), ((5,), 8, 9, 0))

    def test_fewest_spans(self):
        self.store.tell(3, (staff("ann", 2, 4), staff("bob", 4, 6), staff("cyd", 6, 8)))
        self.check(((5,), 2, 8, 1))
        self.store.tell(3, (cut("staff", "cyd"), cut("staff", "bob"), cut("staff", "ann", 3)))
        self.check(((5,), 3, 8, 0))

    def test_restored_and_corrected(self):
        self.store.tell(3, (staff(),))
        self.store.tell(4, (staff(low=3, high=7, pay=8),))
        self.store.restore(5, "staff", "ann", known=3, low=5)
        self.check(((5,), 5, 7, 1), ((8,), 5, 7, 0))
        self.store.correct(5, (("staff", "ann", 3, 5, (None, 8, None), None),))
        self.check(((8,), 3, 5, 0))
        self.store.restore(5, "staff", "ann", known=None)
        self.check()

    def test_several_deeds_at_once(self):
        self.store.tell_all(((3, (staff(),)), (3, (staff("bob", pay=7),)), (3, (staff("bob", pay=8),))))
        self.check(((7,), 0, None, 0), ((8,), 0, None, 1))
        self.store.tell_all(())
        self.check(((7,), 0, None, 0), ((8,), 0, None, 1))

    def test_refused_deeds(self):
        self.store.tell(3, (staff(),))
        due = (((5,), 0, None, 1),)
        refused = (
            lambda: self.store.tell(3, ()), lambda: self.store.tell(2, (staff(),)),
            lambda: self.store.tell(3, (staff(home="none"),)), lambda: self.store.restore(3, "none", "a", known=None),
            lambda: self.store.correct(3, (("tag", "a", 0, 1, (), None),)), lambda: self.store.correct(3, ()),
            lambda: self.store.tell_all(((3, (staff("bob", pay=7),)), (3, ()))), lambda: self.store.tell_all(None),
            lambda: self.store.tell_all(((3, (staff("bob", pay=7),)),), each=lambda changes: self.store.drop("v")),
        )
        for ask in refused:
            told = outcome(ask)
            self.assertIsInstance(told[0], str)
            self.check(*due)
            self.assertEqual(self.store.view("v"), (((5,), 0, None),))

    def test_dropped_and_kept_again(self):
        self.store.tell(3, (staff(),))
        self.store.drop("v")
        self.store.keep("v", KEPT)
        self.check()
        self.store.tell(3, (staff(pay=6),))
        self.check(((5,), 0, None, 0), ((6,), 0, None, 1))

    def test_far_days(self):
        self.store.tell(3, (staff(low=LAST),))
        self.check(((5,), LAST, None, 1))
        self.store.tell(LAST, (staff(low=LAST - 1, high=LAST),))
        self.check(((5,), LAST - 1, LAST, 1))

    def test_of_two_tables(self):
        store = Store(PLAN)
        store.keep("v", ("lacking", ROWS, "pay", "tag"))
        store.tell(3, (staff(low=2, high=9, pay="a"),))
        store.tell(3, (put("tag", "a", (), 4, 6),))
        self.assertEqual(store.touched("v"), ((("ann", None, "a", None), 4, 6, 0),))
        store.tell(3, (city(),))
        self.assertEqual(store.touched("v"), ())


class Promise(unittest.TestCase):
    """The plan of questions made by chance, deeds of all sorts; refused ones too."""

    def test_by_walks(self):
        touched = 0
        for chance in chances(60, 120):
            store = Store(asked.PLAN)
            store.tell(0, all_rows(asked.PLAN, asked.KEYS))
            questions = {}
            for number in range(9):
                if number in (0, 2, 5):
                    questions["abc"[number // 2]] = random_question(chance, 1 + chance.randrange(5))
                    store.keep("abc"[number // 2], questions["abc"[number // 2]])
                fresh = {name: store.touched(name) for name in questions}
                ahead = {name: self.answers(store, question) for name, question in questions.items()}
                count = len(store)
                self.some_deed(chance, store)
                for name, question in questions.items():
                    self.assertEqual(store.view(name), spans(asked.PLAN, store.deeds(), question))
                    due = fresh[name]
                    if len(store) > count:
                        due = self.walked(ahead[name], self.answers(store, question))
                    self.assertEqual(store.touched(name), due)
                    touched += len(due)
        self.assertGreater(touched, 250)

    def some_deed(self, chance, store):
        day = chance.choice([2, 4, 6]) + len(store)
        keys = asked.KEYS
        sort = chance.choice(["tell"] * 4 + ["restore", "correct"])
        if sort == "tell":
            outcome(store.tell, day, tuple(random_row_step(chance, asked.PLAN, keys, cuts=0.1)
                                           for place in range(1 + chance.randrange(6))))
        elif sort == "restore":
            outcome(store.restore, day, chance.choice(["city", "land", "staff"]), chance.choice(keys), known=4,
                    low=chance.randrange(8))
        else:
            outcome(store.correct, day, undone(patch(store.deeds(), early=4)))

    def answers(self, store, question):
        return [answer(asked.PLAN, store.deeds(), question, day) for day in range(DAYS)]

    def walked(self, ahead, now):
        pieces = []
        for row in in_order({row for rows in ahead + now for row in rows}):
            sides = [None if (row in was) == (row in is_now) else (1 if row in is_now else 0)
                     for was, is_now in zip(ahead, now)]
            pieces += [(row,) + piece for piece in line_from(sides, True)]
        return tuple(pieces)


class Soon(unittest.TestCase):
    def test_six_views_through_sixty_deeds(self):
        began = time.process_time()
        store = Store(PLAN)
        questions = (ROWS, KEPT, ("count", ROWS, ()), ("sum", ROWS, ("home",), "pay"), ("lacking", ROWS, "home", "city"),
                     ("top", ROWS, (), "pay"))
        for name, question in zip("abcdef", questions):
            store.keep(name, question)
        names = [first + second for first in "abcdefghij" for second in "abcdef"]
        for number in range(60):
            steps = [staff(names[number], (number * 7 + place) * 10 ** 9, LAST - number, pay=number % 7) for place in range(3)]
            store.tell(number * 10 ** 9, tuple(steps))
            for name in "abcdef":
                store.view(name)
                store.touched(name)
        self.assertLess(time.process_time() - began, 20)


if __name__ == "__main__":
    unittest.main()
