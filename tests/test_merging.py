"""Point 14a: two stores merged."""

import time
import unittest

from bothtimes.errors import Broken, Clash, Full, Unlike
from bothtimes.merging import merged
from bothtimes.store import Store
from tests.samples import LAST, chances, odd_things
from tests.stores import (DAYS, KEYS, PLACES, PLAN, all_rows, city, cut, held_on, next_day, outcome, patch_from,
                          plain_broken, put, random_steps, staff, steps_from)

WIDE = PLACES + [("staff", "ann"), ("staff", "bob"), ("city", "ulm"), ("tag", "a"), ("tag", "b")]


def store_of(*deeds, most=60):
    store = Store(PLAN, most=most)
    store.tell_all(tuple((day, tuple(steps)) for day, *steps in deeds))
    return store


def lines(store):
    return [store.line(*place) for place in WIDE]


def plain_merged(one, other):
    """The deeds of the new store, or the refusal, by walks."""
    shared = 0
    while one.deeds()[:shared + 1] == other.deeds()[:shared + 1] and shared < min(len(one), len(other)):
        shared += 1
    base = one.deeds()[:shared]
    changes = patch_from(base, other.deeds())
    for table, key in PLACES:
        was, here, there = [held_on(deeds, table, key) for deeds in (base, one.deeds(), other.deeds())]
        for day in range(DAYS):
            if here[day] != was[day] != there[day] and here[day] != there[day]:
                return ("Clash", {"table": table, "key": key, "day": day})
    if not changes:
        return one.deeds()
    most = max(one.most, other.most)
    if len(one) >= most:
        return ("Full", {"most": most})
    last = max(day for day, steps in one.deeds() + other.deeds())
    deeds = one.deeds() + ((last, steps_from(changes)),)
    place = plain_broken(PLAN, deeds, None, range(DAYS))
    if place is not None:
        return ("Broken", dict(zip(("day", "table", "key", "column"), place)))
    return deeds


class Merged(unittest.TestCase):
    def check(self, one, other, *due):
        """The new store has these deeds behind one's; neither store is otherwise then."""
        ahead = [(store.deeds(), store.most, store.views(), lines(store)) for store in (one, other)]
        both = merged(one, other)
        self.assertIsInstance(both, Store)
        self.assertEqual(both.deeds(), one.deeds() + tuple((day, tuple(steps)) for day, *steps in due))
        self.assertEqual([(store.deeds(), store.most, store.views(), lines(store)) for store in (one, other)], ahead)
        return both

    def refused(self, kind, values, one, other):
        ahead = [(store.deeds(), store.most, lines(store)) for store in (one, other)]
        with self.assertRaises(kind) as caught:
            merged(one, other)
        self.assertIs(type(caught.exception), kind)
        self.assertEqual(vars(caught.exception), values)
        self.assertEqual([(store.deeds(), store.most, lines(store)) for store in (one, other)], ahead)

    def test_unlike(self):
        wider = PLAN[:2] + (("tag", ("more",), ()),)
        self.refused(Unlike, {}, Store(PLAN), Store(wider))
        self.refused(Unlike, {}, Store(wider), store_of((3, staff())))
        self.assertRaises(Unlike, merged, Store(PLAN), Store(PLAN[:2]))
        self.check(Store(tuple(list(PLAN))), Store(PLAN))
        for thing in odd_things() + [PLAN, (PLAN, ()), Store]:
            self.assertRaises(Unlike, merged, Store(PLAN), thing)
            self.assertRaises(Unlike, merged, thing, Store(PLAN))
            self.assertRaises(Unlike, merged, thing, thing)

    def test_nothing_to_merge(self):
        self.check(Store(PLAN), Store(PLAN))
        one = store_of((3, staff()), (4, put("tag", "a")))
        self.check(one, one)
        self.check(one, store_of((3, staff()), (4, put("tag", "a"))))
        self.check(one, store_of((3, staff())))
        self.check(one, Store(PLAN))
        self.check(one, store_of((3, staff()), (9, put("tag", "b")), (9, cut("tag", "b"))))
        self.check(Store(PLAN), store_of((3, cut("staff", "ann"))))

    def test_changes_of_the_other_one_only(self):
        one = store_of((3, staff()))
        self.check(one, store_of((3, staff()), (5, staff(low=4, pay=7), put("tag", "a")), (6, cut("tag", "a", 2))),
                   (6, staff(low=4, pay=7), put("tag", "a", (), 0, 2)))
        self.check(Store(PLAN), one, (3, staff()))
        self.check(one, store_of((3, staff()), (4, cut("staff", "ann", 4, 9))), (4, cut("staff", "ann", 4, 9)))

    def test_of_both_on_unlike_places(self):
        one = store_of((3, staff()), (7, staff(low=4, high=6, pay=7)))
        other = store_of((3, staff()), (5, staff(low=6, high=8, pay=8), staff("bob")))
        here = self.check(one, other, (7, staff(low=6, high=8, pay=8), staff("bob")))
        there = self.check(other, one, (7, staff(low=4, high=6, pay=7)))
        self.assertEqual(lines(here), lines(there))

    def test_of_both_alike(self):
        one = store_of((3, staff(pay=7)))
        other = store_of((4, staff(pay=7, high=9), staff(pay=7, low=9)))
        self.check(one, other, (4, staff(pay=7)))
        self.check(other, one, (4, staff(pay=7)))
        self.check(store_of((3, staff(high=9))), store_of((4, staff(low=4))), (4, staff(low=4)))
        gone = store_of((3, staff()), (4, cut("staff", "ann", 5)))
        self.check(gone, store_of((3, staff()), (4, cut("staff", "ann", 7))), (4, cut("staff", "ann", 7)))

    def test_from_the_longest_beginning_alike(self):
        """What both did behind it, though unlike deeds, may come to the same."""
        one = store_of((3, staff()), (4, staff(pay=7)), (5, put("tag", "a")))
        other = store_of((3, staff()), (5, staff(pay=7)), (5, put("tag", "b")))
        self.check(one, other, (5, staff(pay=7), put("tag", "b")))
        back = store_of((3, staff()), (4, staff(pay=7)), (5, staff()), (6, put("tag", "b")))
        self.check(one, back, (6, staff(), put("tag", "b")))

    def test_back_to_what_was_ahead_is_no_change(self):
        one = store_of((3, staff()), (4, staff(pay=7)))
        other = store_of((3, staff()), (5, staff(pay=8)), (6, staff()), (6, put("tag", "b")))
        both = self.check(one, other, (6, put("tag", "b")))
        self.assertEqual(both.line("staff", "ann"), ((0, None, (None, 7, None)),))

    def test_the_later_of_both_last_days(self):
        one = store_of((3, staff()), (9, put("tag", "a")))
        other = store_of((3, staff()), (5, put("tag", "b")))
        self.check(one, other, (9, put("tag", "b")))
        self.check(other, one, (9, put("tag", "a")))
        self.check(store_of((LAST, put("tag", "a"))), store_of((0, put("tag", "b"))), (LAST, put("tag", "b")))

    def test_most_is_the_greater(self):
        one, other = store_of((3, staff()), most=2), store_of((3, staff()), (3, put("tag", "b")), most=9)
        for both in (merged(one, other), merged(other, one)):
            self.assertEqual(both.most, 9)
            while len(both) < 9:
                both.tell(LAST, (put("tag", "a"),))
            self.assertRaises(Full, both.tell, LAST, (put("tag", "a"),))
        self.assertEqual(merged(Store(PLAN, most=0), Store(PLAN, most=0)).most, 0)

    def test_views_stay_where_they_are(self):
        one, other = store_of((3, staff())), store_of((3, staff()), (3, put("tag", "b")))
        one.keep("v", ("rows", "staff"))
        other.keep("w", ("rows", "tag"))
        self.assertEqual(merged(one, other).views(), ())
        self.assertEqual((one.views(), other.views()), (("v",), ("w",)))

    def test_the_new_store_is_its_own(self):
        one = store_of((3, staff()))
        both = merged(one, one)
        both.tell(4, (put("tag", "a"),))
        one.tell(5, (put("tag", "b"),))
        self.assertEqual((both.deeds()[1][0], one.deeds()[1][0], len(both), len(one)), (4, 5, 2, 2))
        self.assertEqual(one.line("tag", "a"), ())

    def test_clash(self):
        one = store_of((3, staff()), (4, staff(low=4, high=9, pay=7)))

        def check(day, *steps, table="staff", key="ann"):
            other = store_of((3, staff()), (4, *steps))
            values = {"table": table, "key": key, "day": day}
            self.refused(Clash, values, one, other)
            self.refused(Clash, values, other, one)
        check(4, staff(low=2, high=6, pay=8))
        check(6, staff(low=6, pay=8))
        check(8, cut("staff", "ann", 8))
        check(5, staff(low=2, high=5, pay=7), cut("staff", "ann", 5, 6), staff(low=6, pay=7))

    def test_clash_of_a_row_cut_and_a_row_put(self):
        began = (3, staff(low=3, high=9))
        ended = store_of(began, (4, cut("staff", "ann", 4, 6)))
        raised = store_of(began, (4, staff(low=5, high=7, pay=8)))
        self.refused(Clash, {"table": "staff", "key": "ann", "day": 5}, ended, raised)
        self.refused(Clash, {"table": "staff", "key": "ann", "day": 5}, raised, ended)

    def test_a_row_cut_that_was_not_there_ahead_is_no_change(self):
        one = store_of((3, put("tag", "a", (), 3, 9)), (4, cut("tag", "a", 7, 8)))
        self.check(one, store_of((3, put("tag", "a", (), 4, 12))), (4, put("tag", "a", (), 4, 12)))

    def test_clash_of_the_least_place(self):
        one = store_of((3, staff(pay=7), staff("bob", low=2, pay=7), city(low=9), put("tag", "a")))
        other = store_of((3, staff(pay=7), staff("bob", low=0, pay=8), city(low=4, land=1), put("tag", "a", (), 3)))
        self.refused(Clash, {"table": "city", "key": "ulm", "day": 9}, one, other)
        self.refused(Clash, {"table": "city", "key": "ulm", "day": 9}, other, one)
        bobs = store_of((3, staff("bob", low=5, pay=9), staff("cyd", pay=1)))
        self.refused(Clash, {"table": "staff", "key": "bob", "day": 5}, one, bobs)
        self.refused(Clash, {"table": "staff", "key": "bob", "day": 5}, bobs, one)

    def test_full(self):
        one = store_of((3, staff()), (4, put("tag", "a")), most=2)
        other = store_of((3, staff()), (4, put("tag", "b")), most=2)
        self.refused(Full, {"most": 2}, one, other)
        self.check(one, store_of((3, staff()), most=1))
        self.check(store_of((3, staff()), most=1), one, (4, put("tag", "a")))
        self.refused(Full, {"most": 2}, one, store_of((3, put("tag", "b")), most=1))

    def test_broken(self):
        one = store_of((3, city()), (4, staff(low=2, home="ulm")))
        other = store_of((3, city()), (4, cut("city", "ulm", 6)))
        due = {"day": 6, "table": "staff", "key": "ann", "column": "home"}
        self.refused(Broken, due, one, other)
        self.refused(Broken, due, other, one)

    def test_clash_ahead_of_full_ahead_of_broken(self):
        def one(most=60):
            return store_of((3, city()), (4, staff(low=2, home="ulm")), most=most)
        ends = store_of((3, city()), (4, cut("city", "ulm", 6)), most=2)
        clashes = store_of((3, city()), (4, cut("city", "ulm", 6), staff(low=3)), most=2)
        place = {"table": "staff", "key": "ann", "day": 3}
        self.refused(Clash, place, one(), clashes)
        self.refused(Clash, place, one(2), clashes)
        self.refused(Full, {"most": 2}, one(2), ends)
        self.refused(Broken, {"day": 6, "table": "staff", "key": "ann", "column": "home"}, one(), ends)


class Promise(unittest.TestCase):
    def test_by_walks(self):
        kinds = {}
        for chance in chances(220, 130):
            base = ((0, all_rows(PLAN, KEYS)),) * chance.randrange(2) + ((1, random_steps(chance, 1)),) * chance.randrange(2)
            most = chance.choice([60, 60, 3])
            stores = []
            for number in range(2):
                store = Store(PLAN, most=most)
                for day, steps in base:
                    outcome(store.tell, day, steps)
                for place in range(chance.choice([0, 1, 1, 2, 4])):
                    outcome(store.tell, 1 + next_day(chance, store.deeds()), random_steps(chance, 2))
                stores.append(store)
            one, other = stores
            ahead = [(store.deeds(), lines(store)) for store in stores]
            ways = []
            for here, there in ((one, other), (other, one)):
                both = outcome(merged, here, there)
                due = plain_merged(here, there)
                self.assertEqual(both.deeds() if isinstance(both, Store) else both, due)
                kind = "told" if isinstance(both, Store) else both[0]
                kinds[kind] = kinds.get(kind, 0) + 1
                if kind == "told":
                    ways.append(lines(both))
            self.assertTrue(len(ways) < 2 or ways[0] == ways[1])
            self.assertEqual([(store.deeds(), lines(store)) for store in stores], ahead)
        self.assertTrue(all(kinds.get(kind, 0) > 4 for kind in ("told", "Clash", "Full", "Broken")), kinds)

    def test_soon(self):
        began = time.process_time()
        one, other = Store(PLAN), Store(PLAN)
        for number in range(50):
            for store, word in ((one, "a"), (other, "b")):
                store.tell(number * 10 ** 9, tuple(put("tag", word, (), (number * 8 + place) * 10 ** 9 + 1,
                                                       (number * 8 + place + 1) * 10 ** 9) for place in range(2)))
        self.assertEqual(lines(merged(one, other)), lines(merged(other, one)))
        self.assertLess(time.process_time() - began, 10)


if __name__ == "__main__":
    unittest.main()
